import PyProof.Rows.All
import Wide.All
import OpenK.AllK
import Wide.FinOn
import HandS.ForMost
import HandS.IsInst
import HandS.StrMore
import HandS.Codes
import HandS.Evl
import HandS.TupAny
import HandS.TupMul
import HandS.Walk
import PyProof.Rows.StrJoinRep
import HandS.Lambda
import HandS.EndTab
import HandS.Conv
import KE.SortKeyHeap
import HandS.HotCalls
import HandS.ExcIs
import HandS.Comp
import HandS.WordsExc
import HandS.WideBits
import HandS.More
import PySem.Challenge.RW_farpage_k11_plain_tellings_spoilt
set_option Elab.async false
set_option linter.all false
set_option maxRecDepth 100000
set_option maxHeartbeats 4000000
/-! Rules of our own over the hand layer: a sign times an int, list(text), ljust with a sign. -/
namespace Fp
open PySem L2 PyProof.Rows
/-- a text by its codes -/
def sOf (l : List Nat) : Str := ⟨l.toArray⟩
theorem sOf_list (l : List Nat) : (sOf l).cps.toList = l := by simp [sOf]
theorem sOf_len (l : List Nat) : (sOf l).length = l.length := by simp [sOf, Str.length]
theorem of_list {z : Str} {l : List Nat} (h : z.cps.toList = l) : z = sOf l := str_of_list (by rw [h, sOf_list])
theorem sOf_inj {l m : List Nat} (h : sOf l = sOf m) : l = m := by
  have := congrArg (fun z => z.cps.toList) h
  simpa [sOf] using this
theorem sOf_app (l m : List Nat) : sOf l ++ sOf m = sOf (l ++ m) := by
  apply of_list
  show ((sOf l) ++ (sOf m)).cps.toList = l ++ m
  rw [show ((sOf l) ++ (sOf m)).cps = (sOf l).cps ++ (sOf m).cps from rfl]
  simp [sOf]
section
variable {X : Cx}
theorem op_mul_str : OpR X (binaryOp .Mult) (fun x y H Q => ∃ c n, x = .str (sOf [c]) ∧ y = .int n ∧ (-100000 ≤ n ∧ n ≤ 100000) ∧ Q (.str (sOf (List.replicate n.toNat c))) H) := by
  intro pins s σ H x y v u Q I rx ry h
  obtain ⟨c, n, rfl, rfl, hz, q⟩ := h
  obtain ⟨t, rfl⟩ := rx
  obtain ⟨t', rfl⟩ := ry
  refine SB.mul (mulOk_of 1 100000 (by rw [sOf_len]; exact Nat.le_refl _) (by omega) (by omega) (by decide) (by decide)) fun t' k => ?_
  have e : Txt.mul (sOf [c]) n = sOf (List.replicate n.toNat c) := of_list (mul_one_list c n)
  rw [e]
  exact ⟨.str (sOf (List.replicate n.toNat c)), H, I.tok _, ⟨_, rfl⟩, q⟩
theorem padOk {i : Int} (h0 : 0 ≤ i) (h1 : i ≤ 100000) : PadOk i = true := padOk_of (by omega) (by omega)
theorem mt_ljustF : MtR X "str.ljust" (fun x xs H Q => ∃ (l : List Nat) (i : Int) (c : Nat), x = .str (sOf l) ∧ xs = [.int i, .str (sOf [c])] ∧ (0 ≤ i ∧ i ≤ 100000) ∧ Q (.str (sOf (l ++ List.replicate (i.toNat - l.length) c))) H) := by
  intro pins s σ H x xs v us Q I rx rs h
  obtain ⟨l, i, c, rfl, rfl, hz, q⟩ := h
  obtain ⟨t, rfl⟩ := rx
  obtain ⟨u, w', rfl, ⟨t', rfl⟩, ⟨t'', rfl⟩⟩ := vals2 rs
  refine ljust_fill (padOk hz.1 hz.2) (sOf_len _) fun t' k => ?_
  have e : Txt.ljustF (sOf l) i ((sOf [c]).cps.getD 0 0) = sOf (l ++ List.replicate (i.toNat - l.length) c) := of_list (by
    rw [ljustF_list, sOf_list, sOf_len]
    rfl)
  rw [e]
  exact ⟨.str (sOf (l ++ List.replicate (i.toNat - l.length) c)), H, I.tok _, ⟨_, rfl⟩, q⟩
theorem vals_signs {acc : List Value} {l : List Nat} (h1 : acc.length = l.length) (h2 : ∀ (j : Nat) v, acc[j]? = some v → ∃ c u, l[j]? = some c ∧ v = .str ⟨#[c]⟩ u) : Vals (l.map fun c => V.str (sOf [c])) acc := by
  induction l generalizing acc with
  | nil =>
    cases acc with
    | nil => exact .nil
    | cons a r => simp at h1
  | cons c r ih =>
    cases acc with
    | nil => simp at h1
    | cons a b =>
      obtain ⟨c', u, e, rfl⟩ := h2 0 a rfl
      have e2 : c' = c := by simpa using e.symm
      subst e2
      exact .cons ⟨u, rfl⟩ (ih (by simpa using h1) fun j v hj => h2 (j + 1) v hj)
theorem call_list_str (hc : X.calm = true) : CallR X (.type "list") (fun xs H Q => ∃ z : List Nat, xs = [.str (sOf z)] ∧ z.length ≤ 100000 ∧ ∀ l, H l = none → Q (.ref l) (upd H l (.lst (z.map fun c => V.str (sOf [c]))))) := by
  intro pins s σ H xs us Q I r h
  obtain ⟨z, rfl, hz, q⟩ := h
  obtain ⟨u, rfl, t, rfl⟩ := vals1 r
  have hl : z.length ≤ sizeLine := Nat.le_trans hz (by decide)
  refine PySem.call_list_str (I.ok.hd hc) (sOf z) t (hn := by show (sOf z).length ≤ sizeLine; rw [sOf_len]; exact hl) fun h' tk acc' c' hk hS' hacc => ?_
  have r' : Vals (z.map fun c => V.str (sOf [c])) acc'.toList := vals_signs (by have := hacc.1; simpa [sOf] using this) fun j v hj => by
    obtain ⟨c, u, e, rfl⟩ := hacc.2 j v (by simpa using hj)
    exact ⟨c, u, by simpa [sOf] using e, rfl⟩
  exact ⟨.ref s.heap.objs.size, _, I.laid (t' := tk) hk (Nat.le_refl _) (show ObjOk X.prog X.w _ h' _ (.lst _) from ⟨by rw [List.length_map]; exact hl, acc'.toList, c', r', by simpa using hS'⟩), rfl, q _ (I.hok.fresh (Nat.le_refl _))⟩
end
/-! ### heaps -/
theorem same_new {H : Hp} {p : Addr} {o : HO} (h : H p = none) : Same H (upd H p o) := fun b x e => by
  rw [upd_ne (ne_of_none e h)]
  exact e
/-- what is new may change -/
theorem Same.mut {H H' : Hp} {p : Addr} {o : HO} (e : Same H H') (h : H p = none) : Same H (upd H' p o) := fun b x hb => by
  rw [upd_ne (ne_of_none hb h)]
  exact e b x hb
/-- a bag of the laws' draws -/
def BagAt (H : Hp) (b : Addr) : Prop := ∃ g s : Int, H b = some (.lst [.int g, .int s]) ∧ 0 ≤ g ∧ 0 ≤ s ∧ s < 1000000000000
/-- the bag has turned, what else stood stands -/
def Bx (b : Addr) (H H' : Hp) : Prop := BagAt H' b ∧ ∀ a o, a ≠ b → H a = some o → H' a = some o
theorem Bx.refl {b : Addr} {H : Hp} (h : BagAt H b) : Bx b H H := ⟨h, fun _ _ _ e => e⟩
theorem Bx.trans {b : Addr} {H H1 H2 : Hp} (x : Bx b H H1) (y : Bx b H1 H2) : Bx b H H2 := ⟨y.1, fun a o n e => y.2 a o n (x.2 a o n e)⟩
theorem Bx.drawn {b : Addr} {H : Hp} {g s : Int} (g0 : 0 ≤ g) (s0 : 0 ≤ s) (s1 : s < 1000000000000) : Bx b H (upd H b (.lst [.int g, .int s])) := ⟨⟨g, s, upd_same, g0, s0, s1⟩, fun a o n e => by
  rw [upd_ne n]
  exact e⟩
theorem Bx.same {b : Addr} {H H1 H2 : Hp} (x : Bx b H H1) (y : Same H1 H2) : Bx b H H2 := by
  obtain ⟨⟨g, s, h, r⟩, k⟩ := x
  exact ⟨⟨g, s, y _ _ h, r⟩, fun a o n e => y _ _ (k a o n e)⟩
/-- from before the bag was made -/
theorem Bx.back {b : Addr} {H0 H H' : Hp} (x : Bx b H H') (y : Same H0 H) (n : H0 b = none) : Same H0 H' := fun a o e => x.2 a o (ne_of_none e n) (y a o e)
theorem Bx.mut {b p : Addr} {H H' : Hp} {o : HO} (x : Bx b H H') (hp : H p = none) (n : p ≠ b) : Bx b H (upd H' p o) := by
  obtain ⟨⟨g, s, h, r⟩, k⟩ := x
  refine ⟨⟨g, s, by rw [upd_ne n.symm]; exact h, r⟩, fun a u m e => ?_⟩
  rw [upd_ne (ne_of_none e hp)]
  exact k a u m e
theorem Bx.free {b p : Addr} {H H' : Hp} (x : Bx b H H') (h : H' p = none) : H p = none := by
  have n : p ≠ b := by
    obtain ⟨g, s, e, _⟩ := x.1
    exact (ne_of_none e h).symm
  cases q : H p with
  | none => rfl
  | some o =>
    rw [x.2 p o n q] at h
    cases h
theorem BagAt.new {H : Hp} {p : Addr} {g s : Int} (g0 : 0 ≤ g) (s0 : 0 ≤ s) (s1 : s < 1000000000000) : BagAt (upd H p (.lst [.int g, .int s])) p := ⟨g, s, upd_same, g0, s0, s1⟩
theorem BagAt.ne {H : Hp} {b p : Addr} (h : BagAt H b) (n : H p = none) : p ≠ b := by
  obtain ⟨g, s, e, _⟩ := h
  exact (ne_of_none e n).symm
/-- a list's own address is no bag's where its items are texts -/
def cells (l : List Nat) : List V := l.map fun c => V.str (sOf [c])
theorem cells_len (l : List Nat) : (cells l).length = l.length := List.length_map ..
theorem cells_set (l : List Nat) (j c : Nat) : (cells l).set j (.str (sOf [c])) = cells (l.set j c) := by
  unfold cells
  rw [List.map_set]
theorem cells_app (l : List Nat) (c : Nat) : cells l ++ [.str (sOf [c])] = cells (l ++ [c]) := by
  unfold cells
  rw [List.map_append]
  rfl
/-- the cells of rows -/
def Cell (c : Nat) : Prop := c = 46 ∨ c = 35
def Row (l : List Nat) : Prop := ∀ c ∈ l, Cell c
theorem Row.set {l : List Nat} {j c : Nat} (h : Row l) (hc : Cell c) : Row (l.set j c) := fun x hx => by
  rcases List.mem_or_eq_of_mem_set hx with e | e
  · exact h x e
  · rw [e]
    exact hc
theorem Row.app {l : List Nat} {c : Nat} (h : Row l) (hc : Cell c) : Row (l ++ [c]) := fun x hx => by
  rcases List.mem_append.mp hx with e | e
  · exact h x e
  · rw [List.mem_singleton.mp e]
    exact hc
theorem Row.rep {n c : Nat} (hc : Cell c) : Row (List.replicate n c) := fun x hx => by
  rw [(List.mem_replicate.mp hx).2]
  exact hc
theorem Row.nil : Row [] := fun _ h => nomatch h
def cellN (i : Int) : Nat := if i = 0 then 46 else 35
theorem cellN_cell (i : Int) : Cell (cellN i) := by
  unfold cellN
  split
  · exact .inl rfl
  · exact .inr rfl
theorem cell_at {i : Int} (h0 : 0 ≤ i) (h1 : i < 2) : atI (Str.ofString ".#").cps.toList i = some (cellN i) := by
  have : i = 0 ∨ i = 1 := by omega
  rcases this with rfl | rfl <;> rfl
theorem two_len : (Str.ofString ".#").length ≤ sizeLine := by decide
theorem sz {n : Nat} (h : n ≤ 100000) : n ≤ sizeLine := Nat.le_trans h (by decide)
theorem szl {n : Nat} (h : n < 100000) : n < sizeLine := Nat.lt_of_lt_of_le h (by decide)
theorem sIx_nat' (n d a : Nat) : HT.sIx n d (some (a : Int)) = min a n := HT.sIx_nat n d a
theorem cutS_nat (l : List Nat) (a b : Nat) (ha : a ≤ l.length) (hb : b ≤ l.length) : cutS (sOf l) (some (a : Int)) (some (b : Int)) = sOf ((l.drop a).take (b - a)) := by
  unfold cutS
  rw [HT.sIx_nat, HT.sIx_nat, sOf_len, sOf_list, Nat.min_eq_left ha, Nat.min_eq_left hb]
  rfl
theorem take_more {α : Type} (l : List α) (i : Nat) (x : α) (h : l[i]? = some x) : l.take (i + 1) = l.take i ++ [x] := by
  rw [List.take_add_one, h]
  rfl
theorem range_more {α : Type} (f : Nat → α) (i : Nat) : (List.range (i + 1)).map f = (List.range i).map f ++ [f i] := by
  rw [List.range_succ, List.map_append]
  rfl
theorem join_cells : ∀ l : List Nat, Txt.join (Str.ofString "") (l.map fun c => sOf [c]) = sOf l := by
  intro l
  show Builtin.Str.glued (Str.ofString "") (l.map fun c => sOf [c]) = sOf l
  rw [StrLaws.glued_eq_join]
  induction l with
  | nil => rfl
  | cons c r ih =>
    cases r with
    | nil => rfl
    | cons d r =>
      show sOf [c] ++ Str.ofString "" ++ Str.join (Str.ofString "") (List.map (fun c => sOf [c]) (d :: r)) = sOf (c :: d :: r)
      rw [ih, show (Str.ofString "") = sOf [] from rfl, sOf_app, sOf_app]
      rfl
theorem cells_strs (l : List Nat) : cells l = (l.map fun c => sOf [c]).map V.str := by
  rw [List.map_map]
  rfl
theorem ones_sum (l : List Nat) : ((l.map fun c => sOf [c]).map (·.length)).sum = l.length := by
  induction l with
  | nil => rfl
  | cons c r ih =>
    rw [List.map_cons, List.map_cons, List.sum_cons, ih, sOf_len, List.length_cons]
    show 1 + r.length = r.length + 1
    omega
theorem join_size {l : List Nat} (h : l.length ≤ 100000) : ((l.map fun c => sOf [c]).map (·.length)).sum + (l.map fun c => sOf [c]).length * (Str.ofString "").length ≤ 16777216 := by
  rw [ones_sum, show (Str.ofString "").length = 0 from rfl]
  omega
theorem rep_one (n : Nat) (c : Nat) : (List.replicate n [V.str (sOf [c])]).flatten = cells (List.replicate n c) := by
  induction n with
  | zero => rfl
  | succ k ih =>
    rw [List.replicate_succ, List.flatten_cons, ih, List.replicate_succ]
    rfl

/-! ### lists and tuples of texts -/
def sV (l : List Nat) : V := .str (sOf l)
def sD (l : List Nat) : PyData := .str (sOf l)
theorem dp_rows {K : PySem.W.Frag} {H : Hp} : ∀ rows : List (List Nat), DpAll K H (rows.map sV) (rows.map sD)
  | [] => .nil
  | r :: rs => .cons (.str _) (dp_rows rs)
def Codes (l : List Nat) : Prop := ∀ c ∈ l, c < 128
theorem strOk_of {l : List Nat} (h : Codes l) : PyData.strOk (sOf l) = true := by
  unfold PyData.strOk sOf
  rw [Array.all_eq_true']
  intro c hc
  have h2 := h c (by simpa using hc)
  exact decide_eq_true (by omega)
theorem lay_rows : ∀ {rows : List (List Nat)}, (∀ r ∈ rows, Codes r) → PyData.canLayAll0 (rows.map sD) = true
  | [], _ => by simp [PyData.canLayAll0]
  | r :: rs, h => by
    have h1 : PyData.canLay0 (sD r) = true := by
      show PyData.canLay0 (.str (sOf r)) = true
      simp only [PyData.canLay0]
      exact strOk_of (h r (List.mem_cons_self ..))
    have h2 := lay_rows (rows := rs) fun x hx => h x (List.mem_cons_of_mem _ hx)
    simp only [List.map_cons, PyData.canLayAll0, h1, h2, Bool.and_true]
theorem depth_rows : ∀ rows : List (List Nat), PyData.depthAll (rows.map sD) = 0
  | [] => by simp [PyData.depthAll]
  | r :: rs => by
    have h := depth_rows rs
    simp only [List.map_cons, PyData.depthAll, h, sD, PyData.depth]
    rfl
theorem shaped_tup {rows : List (List Nat)} (h : ∀ r ∈ rows, Codes r) : SeqAt.shaped (.tuple (rows.map sD)) = true := by
  show (PyData.canLay0 (.tuple (rows.map sD)) && decide (PyData.depth (.tuple (rows.map sD)) ≤ 64)) = true
  rw [Bool.and_eq_true]
  refine ⟨by simp only [PyData.canLay0]; exact lay_rows h, decide_eq_true ?_⟩
  simp only [PyData.depth, depth_rows]
  omega
theorem shaped_lst {rows : List (List Nat)} (h : ∀ r ∈ rows, Codes r) : SeqAt.shaped (.list (rows.map sD)) = true := by
  show (PyData.canLay0 (.list (rows.map sD)) && decide (PyData.depth (.list (rows.map sD)) ≤ 64)) = true
  rw [Bool.and_eq_true]
  refine ⟨by simp only [PyData.canLay0]; exact lay_rows h, decide_eq_true ?_⟩
  simp only [PyData.depth, depth_rows]
  omega
theorem eqv_tup {rows : List (List Nat)} (h : ∀ r ∈ rows, Codes r) : PyData.eqv (.tuple (rows.map sD)) (.tuple (rows.map sD)) = true := SeqAt.eqv_refl _ (by simp only [PyData.canLay0]; exact lay_rows h)
theorem eqv_lst {rows : List (List Nat)} (h : ∀ r ∈ rows, Codes r) : PyData.eqv (.list (rows.map sD)) (.list (rows.map sD)) = true := SeqAt.eqv_refl _ (by simp only [PyData.canLay0]; exact lay_rows h)
theorem Row.codes {l : List Nat} (h : Row l) : Codes l := fun c hc => by
  rcases h c hc with e | e <;> rw [e] <;> decide
theorem same_t {K : PySem.W.Frag} {H H' : Hp} {a : Addr} {xs : List V} (e : Same H H') (h : SqT K H a xs) : SqT K H' a xs := Evl.ex_t e h
theorem cut1 (xs : List V) : cutV xs (some 1) none = xs.drop 1 := by
  unfold cutV
  rw [show HT.sIx xs.length 0 (some 1) = min 1 xs.length from HT.sIx_nat xs.length 0 1, HT.sIx_none]
  cases xs with
  | nil => rfl
  | cons x r =>
    rw [show min 1 (x :: r).length = 1 by
      rw [List.length_cons]
      omega]
    show (List.take ((x :: r).length - 1) r) = r
    rw [List.length_cons, Nat.add_sub_cancel]
    exact List.take_length

/-! ### tuples of any kind, texts times an int -/
section
variable {X : Cx}
theorem cutV_whole {xs : List V} {lo hi : Option Int} (h : HT.sIx xs.length 0 lo = 0 ∧ HT.sIx xs.length xs.length hi = xs.length) : cutV xs lo hi = xs := by
  unfold cutV
  rw [h.1, h.2]
  show (xs.drop 0).take (xs.length - 0) = xs
  rw [List.drop_zero, Nat.sub_zero, List.take_length]
theorem sl_tupW : SlR X (fun x lo hi H Q => ∃ a xs, x = .ref a ∧ H a = some (.tup xs) ∧ ∀ q H', Same H H' → H' q = some (.tup (cutV xs lo hi)) → Q (.ref q) H') := by
  intro pins s σ H x v vl vu lo hi sl Q I rx hs pl pu h
  obtain ⟨a, xs, rfl, hx, q⟩ := h
  refine sl_tupA pins s σ H _ v vl vu lo hi sl Q I rx hs pl pu ⟨a, xs, rfl, .inl (.inl hx), fun e => ?_, fun e p hp => ?_⟩
  · exact q a H (Same.refl H) (by rw [cutV_whole e]; exact hx)
  · exact q p _ (same_new hp) upd_same
theorem op_catW : OpR X (binaryOp .Add) (fun x y H Q => ∃ a b xs ys, x = .ref a ∧ y = .ref b ∧ H a = some (.tup xs) ∧ H b = some (.tup ys) ∧ xs.length + ys.length ≤ 100000 ∧ ∀ q H', Same H H' → H' q = some (.tup (xs ++ ys)) → Q (.ref q) H') := by
  intro pins s σ H x y v u Q I rx ry h
  obtain ⟨a, b, xs, ys, rfl, rfl, ha, hb, hz, q⟩ := h
  refine op_catA pins s σ H _ _ v u Q I rx ry ⟨a, b, xs, ys, rfl, rfl, .inl (.inl ha), .inl (.inl hb), sz hz, fun e => ?_, fun _ e => ?_, fun _ _ p hp => ?_⟩
  · subst e
    exact q b H (Same.refl H) hb
  · subst e
    exact q a H (Same.refl H) (by rw [List.append_nil]; exact ha)
  · exact q p _ (same_new hp) upd_same
theorem op_mul_txt : OpR X (binaryOp .Mult) (fun x y H Q => ∃ (z : Str) (n : Int), x = .str z ∧ y = .int n ∧ (0 ≤ n ∧ n ≤ 1000 ∧ z.length ≤ 1000) ∧ ∀ m : Str, (m.length : Int) = (z.length : Int) * n → Q (.str m) H) := by
  intro pins s σ H x y v u Q I rx ry h
  obtain ⟨z, n, rfl, rfl, hz, q⟩ := h
  obtain ⟨t, rfl⟩ := rx
  obtain ⟨t', rfl⟩ := ry
  refine SB.mul (mulOk_of 1000 1000 hz.2.2 (by omega) (by omega) (by decide) (by decide)) fun t' k => ?_
  have e := len_mul z n
  rw [if_neg (by simp; omega)] at e
  exact ⟨.str (Txt.mul z n), H, I.tok _, ⟨_, rfl⟩, q _ e⟩
end
theorem cutV_mem {xs : List V} {lo hi : Option Int} {v : V} (h : v ∈ cutV xs lo hi) : v ∈ xs := by
  unfold cutV at h
  exact List.mem_of_mem_drop (List.mem_of_mem_take h)
theorem cutV_len (xs : List V) (lo hi : Option Int) : (cutV xs lo hi).length ≤ xs.length := by
  unfold cutV
  rw [List.length_take, List.length_drop]
  omega
/-! ### things of the laws -/
def Flat (v : V) : Prop := v = .non ∨ (∃ x, v = .bl x) ∨ (∃ i, v = .int i) ∨ ∃ z : Str, v = .str z ∧ z.length ≤ 100000
def It (b : Addr) (H : Hp) (v : V) : Prop := Flat v ∨ (∃ a xs, v = .ref a ∧ a ≠ b ∧ H a = some (.lst xs)) ∨ ∃ a xs, v = .ref a ∧ H a = some (.tup xs)
def Tg (b : Addr) (H : Hp) (v : V) : Prop := Flat v ∨ (∃ a xs, v = .ref a ∧ a ≠ b ∧ H a = some (.lst xs)) ∨ ∃ a xs, v = .ref a ∧ H a = some (.tup xs) ∧ xs.length ≤ 1000 ∧ ∀ u ∈ xs, It b H u
theorem BagAt.tup {H : Hp} {b a : Addr} {xs : List V} (h : BagAt H b) (e : H a = some (.tup xs)) : a ≠ b := fun z => by
  obtain ⟨g, s, e2, _⟩ := h
  rw [z, e2] at e
  cases e
theorem It.bx {b : Addr} {H H' : Hp} {v : V} (h : It b H v) (hb : BagAt H b) (x : Bx b H H') : It b H' v := by
  rcases h with h | ⟨a, xs, rfl, n, e⟩ | ⟨a, xs, rfl, e⟩
  · exact .inl h
  · exact .inr (.inl ⟨a, xs, rfl, n, x.2 _ _ n e⟩)
  · exact .inr (.inr ⟨a, xs, rfl, x.2 _ _ (hb.tup e) e⟩)
theorem Tg.bx {b : Addr} {H H' : Hp} {v : V} (h : Tg b H v) (hb : BagAt H b) (x : Bx b H H') : Tg b H' v := by
  rcases h with h | ⟨a, xs, rfl, n, e⟩ | ⟨a, xs, rfl, e, l, k⟩
  · exact .inl h
  · exact .inr (.inl ⟨a, xs, rfl, n, x.2 _ _ n e⟩)
  · exact .inr (.inr ⟨a, xs, rfl, x.2 _ _ (hb.tup e) e, l, fun u hu => (k u hu).bx hb x⟩)
theorem Tg.it {b : Addr} {H : Hp} {v : V} (h : Tg b H v) : It b H v := by
  rcases h with h | h | ⟨a, xs, rfl, e, l, k⟩
  · exact .inl h
  · exact .inr (.inl h)
  · exact .inr (.inr ⟨a, xs, rfl, e⟩)
theorem Tg.str {b : Addr} {H : Hp} {z : Str} (h : z.length ≤ 100000) : Tg b H (.str z) := .inl (.inr (.inr (.inr ⟨z, rfl, h⟩)))
theorem It.str {b : Addr} {H : Hp} {z : Str} (h : z.length ≤ 100000) : It b H (.str z) := .inl (.inr (.inr (.inr ⟨z, rfl, h⟩)))
theorem str_sOf (z : Str) : z = sOf z.cps.toList := of_list rfl

/-! ### rules whose new objects stand in an opaque heap -/
section
variable {X : Cx} {es : List Expr} {t : TA} {pos : Pos}
theorem pe_weaken {e : Expr} {te tf : TE} (h : PE X e te) (k : ∀ σ H Q, tf σ H Q → te σ H Q) : PE X e tf := ⟨fun pins s σ H Q I q => h.run pins s σ H Q I (k σ H Q q)⟩
def tLstW (t : TA) : TE := fun σ H Q => t σ H fun xs H1 => xs.length ≤ 100000 ∧ ∀ p H2, H1 p = none → Same H1 H2 → H2 p = some (.lst xs) → Q (.ref p) H2
def tTupW (t : TA) : TE := fun σ H Q => t σ H fun xs H1 => xs.length ≤ 100000 ∧ ∀ p H2, H1 p = none → Same H1 H2 → H2 p = some (.tup xs) → Q (.ref p) H2
end
def rNewW (H : Hp) (o : HO) (Q : VK) : Prop := ∀ p H2, H p = none → Same H H2 → H2 p = some o → Q (.ref p) H2
theorem rNewW.go {H : Hp} {o : HO} {Q : VK} (q : rNewW H o Q) : ∀ p, H p = none → Q (.ref p) (upd H p o) := fun p hp => q p _ hp (same_new hp) upd_same
section
variable {X : Cx}
theorem op_catLW : OpR X (binaryOp .Add) (fun x y H Q => ∃ a b xs ys, x = .ref a ∧ y = .ref b ∧ H a = some (.lst xs) ∧ H b = some (.lst ys) ∧ xs.length + ys.length ≤ 100000 ∧ rNewW H (.lst (xs ++ ys)) Q) := by
  intro pins s σ H x y v u Q I rx ry h
  obtain ⟨a, b, xs, ys, rfl, rfl, ha, hb, hz, q⟩ := h
  exact op_cat pins s σ H _ _ v u Q I rx ry ⟨a, b, xs, ys, rfl, rfl, ha, hb, sz hz, q.go⟩
theorem op_repTW : OpR X (binaryOp .Mult) (fun x y H Q => ∃ l k xs, x = .ref l ∧ y = .int k ∧ H l = some (.tup xs) ∧ xs ≠ [] ∧ 2 ≤ k ∧ k ≤ 1000 ∧ xs.length ≤ 1000 ∧ rNewW H (.tup (List.replicate k.toNat xs).flatten) Q) := by
  intro pins s σ H x y v u Q I rx ry h
  obtain ⟨l, k, xs, rfl, rfl, hl, h1, h2, h3, h4, q⟩ := h
  exact op_repT pins s σ H _ _ v u Q I rx ry ⟨l, k, xs, rfl, rfl, .inl (.inl hl), h1, h2, h3, h4, q.go⟩
theorem call_list_ofW : CallR X (.type "list") (fun xs H Q => ∃ p ys, xs = [.ref p] ∧ (H p = some (.lst ys) ∨ H p = some (.tup ys)) ∧ rNewW H (.lst ys) Q) := by
  intro pins s σ H xs us Q I r h
  obtain ⟨p, ys, rfl, hp, q⟩ := h
  exact call_list_of pins s σ H _ us Q I r ⟨p, ys, rfl, hp.elim (fun h => .inl (SqL.of h)) (fun h => .inr (.inl (.inl h))), q.go⟩
theorem call_list_strW (hc : X.calm = true) : CallR X (.type "list") (fun xs H Q => ∃ z : Str, xs = [.str z] ∧ z.length ≤ 100000 ∧ rNewW H (.lst (cells z.cps.toList)) Q) := by
  intro pins s σ H xs us Q I r h
  obtain ⟨z, rfl, hz, q⟩ := h
  refine call_list_str hc pins s σ H _ us Q I r ⟨z.cps.toList, by rw [← str_sOf], ?_, q.go⟩
  rw [Array.length_toList]
  exact hz
end
section
variable {X : Cx} {es : List Expr} {t : TA} {pos : Pos}
theorem pe_tupW {x1} (h : PA X es t) : PE X (.Tuple es x1 pos) (tTupW t) := by
  refine ⟨fun pins s σ H Q I hq => ?_⟩
  refine wpAny_Tuple_spliced (thn (h.run pos pins s σ H _ I hq) fun us s1 ⟨xs, H1, I1, r, z, q⟩ => ⟨by rw [← r.length]; exact sz z, ?_⟩)
  have hf : H1 s1.heap.objs.size = none := I1.hok.fresh (Nat.le_refl _)
  refine ⟨.ref s1.heap.objs.size, upd H1 s1.heap.objs.size (.tup xs), I1.laid (t' := s1.toks) (fun b u e => Heap.get?_push_of_some _ e) (Nat.le_refl _) ?_, rfl, q _ _ hf (same_new hf) upd_same⟩
  exact ⟨sz z, us, r, ⟨_, Heap.get?_push_size _ rfl, rfl, _, rfl⟩⟩
theorem pe_lstW (h : PA X es t) : PE X (.List es pos) (tLstW t) := by
  refine ⟨fun pins s σ H Q I hq => ?_⟩
  refine wpAny_List_spliced (thn (h.run pos pins s σ H _ I hq) fun us s1 ⟨xs, H1, I1, r, z, q⟩ => ⟨by rw [← r.length]; exact sz z, ?_⟩)
  have hf : H1 s1.heap.objs.size = none := I1.hok.fresh (Nat.le_refl _)
  refine ⟨.ref s1.heap.objs.size, upd H1 s1.heap.objs.size (.lst xs), I1.laid (t' := s1.toks) (fun b u e => Heap.get?_push_of_some _ e) (Nat.le_refl _) ?_, rfl, q _ _ hf (same_new hf) upd_same⟩
  exact ⟨sz z, us, 0, r, Heap.get?_push_size _ rfl⟩
end
end Fp

set_option Elab.async false
set_option linter.all false
set_option maxRecDepth 100000
set_option maxHeartbeats 4000000
/-! sorted(range(n), key=lambda i: xs[i]) over the hand layer. -/
namespace Fp
open PySem PySem.W PySem.Spec PyProof.Rows
section
variable {prog : Program} {w : World} {A : Around} {E : Value → Shared → Prop} {s : Shared}
/-- the key's call: (lambda i: xs[i])(i) -/
theorem key_turn {f c' a cL : Addr} {qual : Str} {params : Arguments} {scope : Scope} {clos : List (Str × Addr)} {pm ctv : Value} {xL xP : Str} {p1 p2 p3 : Pos} {h : Heap} {tk : Nat} {its : Array Value} {i : Int} {t : Tok} {x : Int} {tx : Tok}
    (hroom : A.depth < recursionLimit) (hf : h.get? f = some (kla_obj "<lambda>" qual params (.Subscript (.Name xL p1) (.Name xP p2) p3) scope clos pm c' ctv))
    (hkind : scope.kind = .function) (hco : scope.isCoroutine = false) (hgen : scope.isGenerator = false) (hcell : ∀ y ∈ scope.names, y.2 ≠ .cell) (hP : scope.names.lookup xP = some .local) (hL : scope.names.lookup xL = some .free)
    (hcl : clos.lookup xL = some cL) (hic : h.IsCell cL (some (.ref a))) (hcr : ∃ (oc : Obj) (vs : Array Value) (t : Tok), h.get? c' = some oc ∧ oc.data = .fields vs ∧ vs[1]? = some (.str qual t))
    (hbind : ∀ v, bindArgs (kla_fn "<lambda>" qual params (.Subscript (.Name xL p1) (.Name xP p2) p3) scope clos pm (.ref c') ctv) ⟨[v], []⟩ = pure [(xP, v)])
    (hlim : h.NoLimit) (hl : h.IsList a its) (h0 : 0 ≤ i) (hi : i < 2 ^ 63) (hx : its[i.toNat]? = some (.int x tx))
    (hd1 : (xL == ("__debug__" : Str)) = false) (hd2 : (xP == ("__debug__" : Str)) = false) (hd3 : (xL == ("__classdict__" : Str)) = false) :
    wpAny (model prog w) A (call (.ref f) [.int i t]) (KeyPure (.int x) { s with heap := h, toks := tk }) E { s with heap := h, toks := tk } := by
  obtain ⟨oc, vs, tq, hoc, hdc, hvc⟩ := hcr
  refine wpAny_call (kla_callFunE hroom hf rfl hco hgen rfl ⟨c', oc, vs, tq, rfl, hoc, hdc, hvc⟩ ?_)
  rw [hbind]
  refine wpAny_pure (wpAny_newFunctionEnv hcell (fun y hy => ?_) (fun h₁ hns hsb => ⟨hlim.fresh _ hsb, ?_⟩) hkind)
  · rw [List.mem_singleton.mp hy]
    exact hP
  have kp : ∀ b o, h.get? b = some o → h₁.get? b = some o := fun b o e => hsb.extBut b o (Nat.ne_of_lt (Heap.lt_size e)) (Heap.get?_push_of_some _ e)
  show codeAny _ _ (.expr (.Subscript (.Name xL p1) (.Name xP p2) p3) (envX qual scope h.objs.size f (.ref c') clos)) _ _
  refine kla_codeExpr ?_
  have hic1 : h₁.IsCell cL (some (.ref a)) := by
    obtain ⟨o, ho, hd⟩ := hic
    exact ⟨o, kp _ _ ho, hd⟩
  have hl1 : h₁.IsList a its := by
    obtain ⟨o, ho, r⟩ := hl
    exact ⟨o, kp _ _ ho, r⟩
  refine Subscript_ (wpAny_Name (wpAny_loadName_free hkind hL hcl hic1 (wpAny_Name (wpAny_loadName_local hkind hP hns (show ([(xP, Value.int i t)] : List (Str × Value)).reverse.lookup xP = some (Value.int i t) by simp [List.lookup]) ?_) hd2) hd3) hd1)
  refine item_listR hl1 h0 hi hx ?_ rfl
  exact ⟨h₁, _, rfl, kp, .int _ _⟩
theorem each_range {acc : List Value} {n : Nat} (h1 : acc.length = n) (h2 : ∀ (j : Nat) v, acc[j]? = some v → ∃ t, v = .int (0 + (j : Int) * 1) t) : EachIs (fun v (i : Nat) => ∃ t, v = .int (i : Int) t) acc (List.range n) := by
  refine EachIs.of_zip (by rw [h1, List.length_range]) fun p hp => ?_
  obtain ⟨j, hj⟩ := List.mem_iff_getElem?.mp hp
  rw [List.getElem?_zip_eq_some] at hj
  obtain ⟨t, e⟩ := h2 j p.1 hj.1
  have e2 : p.2 = j := by
    have hj2 := hj.2
    have hl : j < n := by
      have := (List.getElem?_eq_some_iff.mp hj2).1
      rw [List.length_range] at this
      exact this
    rw [List.getElem?_range hl] at hj2
    exact (Option.some.inj hj2).symm
  refine ⟨t, ?_⟩
  rw [e, e2]
  congr 1
  omega
theorem sorted_range_key {r : Addr} {b : Int} {t u v : Tok} {f : Addr} {n : Nat} {Q : Value → Shared → Prop} (k : Nat → Int) (hh : A.handled = none) (hr : IsRange s.heap r 0 b 1 t u v) (hn : b = n) (hlen : n ≤ 100000) (hu : A.units + 2 < cLine)
    (turn : ∀ (i : Nat) (tt : Tok), i < n → ∀ (h : Heap) (tk : Nat), (∀ b o, s.heap.get? b = some o → h.get? b = some o) →
      wpAny (model prog w) A.in1.in1 (call (.ref f) [.int (i : Int) tt]) (KeyPure (.int (k i)) { s with heap := h, toks := tk }) (fun _ _ => False) { s with heap := h, toks := tk })
    (fin : ∀ (out : List Value) (c : Nat) (g h' : Heap) (tk : Nat) (p : Addr), (∀ b o, s.heap.get? b = some o → g.get? b = some o) → (∀ b o, g.get? b = some o → h'.get? b = some o) → g.objs.size ≤ p → h'.get? p = some (seqObj "list" out.toArray c) → out.length = n →
      EachIs (fun v (i : Nat) => ∃ t, v = .int (i : Int) t) out ((List.range n).mergeSort (dataLe false fun i => .int (k i))) → Q (.ref p) { s with heap := h', toks := tk }) :
    wpAny (model prog w) A (call (.builtin "sorted") [.ref r] [(Str.ofString "key", .ref f)]) Q E s := by
  refine call_function_entry_kw kind_sorted plain_sorted entry_sorted (ksk_s1 _ _) ?_
  unfold Builtin.«sorted»
  refine wpAny_bind (m := checkCount "sorted" 1 1 _) (wpAny_pure ?_)
  refine wpAny_bind (L2.collect_range (n := n) (A := A.in1) hh hr (small_one (by omega) (by omega) (by omega) (by omega)) (by rw [rangeSize_one]; split <;> omega) (by omega) fun h1 tk1 acc hk hacc => ?_)
  have hal : acc.toList.length = n := by rw [Array.length_toList]; exact hacc.1
  have eR := each_range hal fun j v hj => hacc.2 j v (by simpa using hj)
  have hz : acc.toList.length ≤ sizeLine := by rw [hal]; exact Nat.le_trans hlen (by decide)
  refine wpAny_bind (wpAny_newList ?_ hz)
  have hL : (h1.push (seqObj "list" acc.toList.toArray 0)).get? h1.objs.size = some (seqObj "list" acc.toList.toArray 0) := Heap.get?_push_size _ rfl
  refine wpAny_bind (wpAny_holding (wpAny_call_entry_kw slot_list_sort ⟨_, hL, rfl⟩ entry_list_sort ?body (ksk_l1 _ _)))
  rw [ksk_t1]
  have up : ∀ {g : Heap}, KeepsBut h1.objs.size (h1.push (seqObj "list" acc.toList.toArray 0)) g → ∀ b o, s.heap.get? b = some o → g.get? b = some o := fun {g} kp b o q =>
    kp b o (Nat.ne_of_lt (Heap.lt_size (hk b o q))) (Heap.get?_push_of_some _ (hk b o q))
  refine keyH_tree (kz := (List.range n).map fun i => PyData.int (k i)) (s := { s with heap := h1.push (seqObj "list" acc.toList.toArray 0), toks := tk1 }) hL (by rw [List.length_map, List.length_range]; exact hal.symm) hz ?al ?so ?un
    (keyH_turns (s := { s with heap := h1.push (seqObj "list" acc.toList.toArray 0), toks := tk1 }) eR fun v x hR hx h tk kp => ?_) fun h' tk out c kp hD ko => ⟨_, rfl, ?_⟩
  case al =>
    intro d hd d' hd'
    obtain ⟨i, _, rfl⟩ := List.mem_map.mp hd
    obtain ⟨j, _, rfl⟩ := List.mem_map.mp hd'
    rfl
  case so =>
    refine .inr fun d hd => ?_
    obtain ⟨i, _, rfl⟩ := List.mem_map.mp hd
    exact ⟨(fun e => nomatch e), (fun xs e => nomatch e)⟩
  case un =>
    intro d hd
    obtain ⟨i, _, rfl⟩ := List.mem_map.mp hd
    show A.units + 1 + 1 + 0 < cLine
    omega
  · obtain ⟨tt, rfl⟩ := hR
    exact turn x tt (List.mem_range.mp hx) h tk (up kp)
  · refine wpAny_pure ⟨_, rfl, ?_⟩
    refine fin out c h1 h' tk h1.objs.size hk (fun b o q => kp b o (Nat.ne_of_lt (Heap.lt_size q)) (Heap.get?_push_of_some _ q)) (Nat.le_refl _) hD ?_ (keyedOut_each (fun i => PyData.int (k i)) ko eR)
    · exact (ko.length (by rw [List.length_map, List.length_range]; exact hal.symm)).trans hal
end
/-! ### the order -/
def leK (k : Nat → Int) (i j : Nat) : Bool := decide (k i ≤ k j)
def orderOf (ns : List Int) : List Nat := (List.range ns.length).mergeSort (leK fun i => ns.getD i 0)
theorem dataLe_int (k : Nat → Int) (i j : Nat) : dataLe false (fun i => PyData.int (k i)) i j = leK k i j := by
  show (!(decide (k j < k i) || (!decide (k i < k j) && false))) = decide (k i ≤ k j)
  rw [Bool.and_false, Bool.or_false]
  by_cases h : k j < k i
  · rw [decide_eq_true h, decide_eq_false (by omega)]
    rfl
  · rw [decide_eq_false h, decide_eq_true (by omega)]
    rfl
theorem vals_each {out : List Value} {is : List Nat} (h : EachIs (fun v (i : Nat) => ∃ t, v = .int (i : Int) t) out is) : L2.Vals (is.map fun (i : Nat) => L2.V.int (i : Int)) out := by
  induction h with
  | nil => exact .nil
  | cons h _ ih => exact .cons h ih
end Fp
namespace Fp
open PySem PySem.Spec PyProof.Rows L2 LamX
section
variable {X : Cx}
theorem cr_range1 : CallR X (.type "range") (fun vs H Q => ∃ j, vs = [V.int j] ∧ ∀ p, H p = none → Q (.ref p) (upd H p (.rng 0 j))) := by
  intro pins s σ H vs us Q I r h
  obtain ⟨j, rfl, q⟩ := h
  obtain ⟨u, rfl, t, rfl⟩ := vals1 r
  refine call_range_1 ⟨.ref s.heap.objs.size, upd H s.heap.objs.size (.rng 0 j), I.laid (t' := s.toks + 1 + 1) (fun b o e => Heap.get?_push_of_some _ e) (Nat.le_refl _) ?_, rfl, q _ (I.hok.fresh (Nat.le_refl _))⟩
  exact ⟨_, _, _, Heap.get?_push_size _ rfl⟩
/-- sorted(range(len(xs)), key=lambda i: xs[i]): l in slot iL holds xs -/
def tSortLam (T : List (Addr × Str)) (iL : Nat) (ta : TA) : TE := fun σ H Q => ta σ H fun vs H1 => ∃ (r l : Addr) (ns : List Int), vs = [.ref r] ∧ H1 r = some (.rng 0 (ns.length : Int)) ∧ Tabs T H1 ∧ σ[iL]? = some (some (.ref l)) ∧ H1 l = some (.lst (ns.map V.int)) ∧ ns.length ≤ 1000 ∧
  ∀ p H2, ExtN H1 H2 → Tabs T H2 → H2 p = none → Q (.ref p) (upd H2 p (.lst ((orderOf ns).map fun (i : Nat) => V.int (i : Int))))
theorem pe_sortLam {T : List (Addr × Str)} {c P : Addr} {iL k : Nat} {e : Expr} {ta : TA} {params : Arguments} {scope : Scope} {xL xP : Str} {p p1 p2 p3 lpos kpos pos : Pos} (hg : Gl X "sorted") (hm : X.mg "sorted" = none) (ha : PA X [e] ta)
    (TB : TabB X.base X.mg c P) (hcode : X.env.code = .ref c) (hmT : (P, X.env.qual ++ "<lambda>") ∈ T) (hu : ∀ p ∈ T, p.1 = P → p.2 = X.env.qual ++ "<lambda>") (hr : Room k X.A) (hN : X.N[iL]? = some xL)
    (hcalm : X.calm = true)
    (hcL : X.env.scope.names.lookup xL = some .cell) (hkind : scope.kind = .function) (hco : scope.isCoroutine = false) (hgen : scope.isGenerator = false) (hnm : scope.names = [(xP, .local), (xL, .free)]) (hne : (xP == xL) = false)
    (hdef : defaultsOf params X.env = ([], []))
    (hbind : ∀ (q : Str) (cl : List (Str × Addr)) (pm cv ctv v : Value), bindArgs (PySem.W.kla_fn "<lambda>" q params (.Subscript (.Name xL p1) (.Name xP p2) p3) scope cl pm cv ctv) ⟨[v], []⟩ = pure [(xP, v)])
    (hd1 : (xL == ("__debug__" : Str)) = false := by decide) (hd2 : (xP == ("__debug__" : Str)) = false := by decide) (hd3 : (xL == ("__classdict__" : Str)) = false := by decide)
    (he : backTo pos (starEach [e] X.env) = (false, eval e X.env) :: backTo pos (starEach [] X.env) := by rfl) (hpl : (backTo pos (starEach [e] X.env)).any (·.1) = false := by rfl) :
    PE X (.Call (.Name "sorted" p) [e] [⟨some "key", .Lambda params (.Subscript (.Name xL p1) (.Name xP p2) p3) scope lpos, kpos⟩] pos) (tSortLam T iL ta) := by
  refine ⟨fun pins s σ H Q I h => ?_⟩
  refine wpAny_Call_Name_kw (ld_blt I hg hm (show bootBuiltins "sorted" = some (.builtin "sorted") by decide +kernel) ?_)
  refine PyProof.Rows.callWith_kw (thn (ha.run pos pins s σ H _ I h) fun us s1 ⟨vs, H1, I1, r1, q1⟩ => ?_) he hpl rfl rfl
  obtain ⟨r, l, ns, rfl, hrng, hT, hσ, hl, hlen, q⟩ := q1
  obtain ⟨u1, rfl, e1⟩ := vals1 r1
  obtain rfl : u1 = Value.ref r := e1
  show wpAny _ _ (evalAll ((do let v ← eval (.Lambda params (.Subscript (.Name xL p1) (.Name xP p2) p3) scope lpos) X.env; standAt pos; pure v) :: [])) _ _ s1
  refine wpAny_evalAll_cons (wpAny_bind (lam_make2 I1 TB hcode hmT hu hT hdef (fun y hy ey => ?_) fun f c' pm ctv H2 s2 I2 eN T2 hf hfn hfr hco2 => wpAny_bind (wpAny_standAt (wpAny_pure (wpAny_evalAll_nil ?_)))))
  · rw [hnm] at hy
    rcases List.mem_cons.mp hy with z | z
    · rw [z] at ey
      cases ey
    · rw [List.mem_singleton.mp z]
      exact I1.ok.has _ (.inl hcL)
  show wpAny _ _ (call (.builtin "sorted") [.ref r] [(Str.ofString "key", .ref f)]) _ _ _
  have hr2 : H2 r = some (.rng 0 (ns.length : Int)) := eN r _ hrng (fun ps z => by cases z)
  have hl2 : H2 l = some (.lst (ns.map V.int)) := eN l _ hl (fun ps z => by cases z)
  obtain ⟨t, u, v, hrr⟩ := I2.hok r _ hr2
  obtain ⟨hz, its, cn, hv, hget⟩ := I2.hok l _ hl2
  obtain ⟨m, hn, hloc⟩ := I2.loc
  obtain ⟨ul, rul, look⟩ := hloc iL xL (.ref l) hN hσ (.inr (.inl hcL))
  obtain rfl : ul = Value.ref l := rul
  obtain ⟨cL, hcl, hcell⟩ : ∃ cL, X.env.cells.lookup xL = some cL ∧ s2.heap.IsCell cL (some (.ref l)) := by
    rcases look with ⟨hk, _⟩ | ⟨_, c3, h1, h2⟩
    · have hk : X.env.scope.names.lookup xL = some .local := hk
      rw [hcL] at hk
      cases hk
    · exact ⟨c3, h1, h2⟩
  have hclo : (cloFrom X.env.cells scope.names []).lookup xL = some cL := by
    rw [hnm]
    show (cloFrom X.env.cells [(xL, .free)] []).lookup xL = some cL
    show ([(xL, (X.env.cells.lookup xL).getD 0)] : List (Str × Addr)).lookup xL = some cL
    rw [hcl]
    simp [List.lookup]
  obtain ⟨⟨oc, cvs, ct, hoc, hdc, hvc⟩, _, _⟩ := I2.hok c' _ hco2
  refine sorted_range_key (n := ns.length) (fun i => ns.getD i 0) (I2.ok.hd hcalm) hrr rfl (by omega) (by have := hr.un; omega) (fun i tt hi h tk kp => ?_) fun out c g h' tk p kg gh hgp hp lo each => ?_
  · have hx : (ns.map V.int)[i]? = some (.int (ns.getD i 0)) := by
      rw [List.getElem?_map, List.getElem?_eq_getElem hi, List.getD_eq_getElem?_getD, List.getElem?_eq_getElem hi]
      rfl
    obtain ⟨w', ew, tx, rfl⟩ := hv.get hx
    obtain ⟨oC, hoC, hdC⟩ := hcell
    refine key_turn (A := X.A.in1.in1) (cL := cL) (a := l) (its := its.toArray) (by show X.A.depth < recursionLimit; have := hr.dp; omega) (kp _ _ hf) hkind hco hgen ?_ ?_ ?_ hclo ⟨oC, kp _ _ hoC, hdC⟩ ⟨oc, cvs, ct, kp _ _ hoc, hdc, hvc⟩ (fun v => hbind _ _ _ _ _ v) (I2.nolimit.keeps kp) ⟨_, kp _ _ hget, rfl, cn, rfl⟩ (by omega) (by omega) (by simpa using ew) hd1 hd2 hd3
    · intro y hy
      rw [hnm] at hy
      rcases List.mem_cons.mp hy with z | z
      · rw [z]
        exact (fun e => nomatch e)
      · rw [List.mem_singleton.mp z]
        exact (fun e => nomatch e)
    · rw [hnm]
      simp [List.lookup]
    · rw [hnm]
      have : (xL == xP) = false := by
        rw [← Bool.not_eq_true] at hne ⊢
        intro z
        exact hne (by rw [beq_iff_eq] at z ⊢; exact z.symm)
      simp [List.lookup, this]
  · have I3 : Inv X pins σ H2 { s2 with heap := g, toks := tk } := I2.kept kg
    have fr : H2 p = none := I3.hok.fresh hgp
    have each2 : PySem.W.EachIs (fun v (i : Nat) => ∃ t, v = .int (i : Int) t) out (orderOf ns) := by
      have es : (List.range ns.length).mergeSort (PySem.W.dataLe false fun i => PyData.int (ns.getD i 0)) = orderOf ns := PySem.W.sort_congr fun a _ b _ => dataLe_int _ a b
      rw [← es]
      exact each
    have ol : (orderOf ns).length = ns.length := by
      unfold orderOf
      rw [List.length_mergeSort, List.length_range]
    have I4 : Inv X pins σ (upd H2 p (.lst ((orderOf ns).map fun (i : Nat) => V.int (i : Int)))) { s2 with heap := h', toks := tk } := I3.laid (t' := tk) gh hgp ⟨by rw [List.length_map, ol]; exact sz (by omega), out, c, vals_each each2, hp⟩
    exact ⟨.ref p, _, I4, rfl, q p H2 eN T2 fr⟩
end
end Fp

set_option Elab.async false
set_option linter.all false
set_option maxRecDepth 100000
set_option maxHeartbeats 4000000
/-! words by lengths: the mathematics. -/
namespace Fp
open PySem PyProof.Rows
/-! ### the order by buckets -/
theorem leK_total (k : Nat → Int) : PySem.W.TotalLe (leK k) where
  trans := fun a b c h1 h2 => by
    unfold leK at *
    have := of_decide_eq_true h1
    have := of_decide_eq_true h2
    exact decide_eq_true (by omega)
  total := fun a b => by
    unfold leK
    by_cases h : k a ≤ k b
    · exact .inl (decide_eq_true h)
    · exact .inr (decide_eq_true (by omega))
def buckets (k : Nat → Int) (n : Nat) : List Nat := (List.range 13).flatMap fun (v : Nat) => (List.range n).filter fun (i : Nat) => decide (k i = (v : Int))
theorem flat_one {α : Type} (X : List α) (c : Nat) : ∀ l : List Nat, l.Nodup → (l.flatMap fun v => if v = c then X else []) = if c ∈ l then X else []
  | [], _ => rfl
  | v :: r, h => by
    have h1 := List.nodup_cons.mp h
    have ih := flat_one X c r h1.2
    rw [List.flatMap_cons, ih]
    by_cases e : v = c
    · subst e
      rw [if_pos rfl, if_neg h1.1, if_pos (List.mem_cons_self ..), List.append_nil]
    · rw [if_neg e, List.nil_append]
      by_cases m : c ∈ r
      · rw [if_pos m, if_pos (List.mem_cons_of_mem _ m)]
      · rw [if_neg m, if_neg (fun z => by
          rcases List.mem_cons.mp z with z | z
          · exact e z.symm
          · exact m z)]
theorem rank_eq (k : Nat → Int) (c a : Nat) : PySem.W.sameRank (leK k) c a = decide (k a = k c) := by
  unfold PySem.W.sameRank leK
  by_cases h : k a = k c
  · rw [decide_eq_true h, decide_eq_true (by omega), decide_eq_true (by omega)]
    rfl
  · rw [decide_eq_false h]
    by_cases h2 : k c ≤ k a
    · rw [decide_eq_true h2, decide_eq_false (by omega)]
      rfl
    · rw [decide_eq_false h2]
      rfl
theorem order_buckets (k : Nat → Int) (n : Nat) (h : ∀ i, i < n → 0 ≤ k i ∧ k i ≤ 12) : (List.range n).mergeSort (leK k) = buckets k n := by
  symm
  refine PySem.W.sort_unique (leK_total k) ?_ fun c => ?_
  · unfold buckets
    rw [List.pairwise_flatMap]
    refine ⟨fun v _ => ?_, ?_⟩
    · refine List.Pairwise.imp_of_mem (fun {a b} ha hb _ => ?_) (List.Pairwise.filter _ List.pairwise_lt_range)
      have e1 := of_decide_eq_true (List.mem_filter.mp ha).2
      have e2 := of_decide_eq_true (List.mem_filter.mp hb).2
      exact decide_eq_true (by omega)
    · refine List.Pairwise.imp (fun {v v'} hv x hx y hy => ?_) List.pairwise_lt_range
      have e1 := of_decide_eq_true (List.mem_filter.mp hx).2
      have e2 := of_decide_eq_true (List.mem_filter.mp hy).2
      exact decide_eq_true (by omega)
  · have eq : PySem.W.sameRank (leK k) c = fun a => decide (k a = k c) := funext fun a => rank_eq k c a
    rw [eq]
    unfold buckets
    rw [List.filter_flatMap]
    by_cases hc : 0 ≤ k c ∧ k c ≤ 12
    · obtain ⟨vc, hvc⟩ := Int.eq_ofNat_of_zero_le hc.1
      have e : (fun v : Nat => ((List.range n).filter fun i => decide (k i = (v : Int))).filter fun a => decide (k a = k c)) = fun v => if v = vc then (List.range n).filter fun a => decide (k a = k c) else [] := by
        funext v
        by_cases ev : v = vc
        · subst ev
          rw [if_pos rfl, hvc, List.filter_filter]
          simp
        · rw [if_neg ev, List.filter_filter]
          apply List.filter_eq_nil_iff.mpr
          intro a _ z
          rw [Bool.and_eq_true, decide_eq_true_eq, decide_eq_true_eq] at z
          omega
      rw [e, flat_one _ _ _ List.nodup_range, if_pos (List.mem_range.mpr (by omega))]
    · have e1 : (List.range n).filter (fun a => decide (k a = k c)) = [] := by
        apply List.filter_eq_nil_iff.mpr
        intro a ha z
        have := h a (List.mem_range.mp ha)
        have := of_decide_eq_true z
        exact hc (by omega)
      rw [e1]
      apply List.flatMap_eq_nil_iff.mpr
      intro v _
      rw [List.filter_filter]
      apply List.filter_eq_nil_iff.mpr
      intro a ha z
      rw [Bool.and_eq_true, decide_eq_true_eq, decide_eq_true_eq] at z
      have := h a (List.mem_range.mp ha)
      exact hc (by omega)
/-! ### words -/
def lastOne : List Nat → Option Nat
  | [] => none
  | c :: r => match lastOne r with
    | some i => some (i + 1)
    | none => if c = 49 then some 0 else none
theorem lastOne_spec : ∀ w : List Nat, (lastOne w = none ∧ ∀ i : Nat, w[i]? ≠ some 49) ∨ ∃ i : Nat, lastOne w = some i ∧ w[i]? = some 49 ∧ ∀ k : Nat, i < k → w[k]? ≠ some 49
  | [] => .inl ⟨rfl, fun i h => by simp at h⟩
  | c :: r => by
    rcases lastOne_spec r with ⟨e, h⟩ | ⟨i, e, h1, h2⟩
    · by_cases hc : c = 49
      · refine .inr ⟨0, ?_, ?_, fun k hk => ?_⟩
        · show (match lastOne r with | some i => some (i + 1) | none => if c = 49 then some 0 else none) = some 0
          rw [e]
          exact if_pos hc
        · rw [hc]
          rfl
        · obtain ⟨j, rfl⟩ : ∃ j, k = j + 1 := ⟨k - 1, by omega⟩
          exact h j
      · refine .inl ⟨?_, fun i => ?_⟩
        · show (match lastOne r with | some i => some (i + 1) | none => if c = 49 then some 0 else none) = none
          rw [e]
          exact if_neg hc
        · cases i with
          | zero => exact fun z => hc (Option.some.inj z)
          | succ j => exact h j
    · refine .inr ⟨i + 1, ?_, h1, fun k hk => ?_⟩
      · show (match lastOne r with | some i => some (i + 1) | none => if c = 49 then some 0 else none) = some (i + 1)
        rw [e]
      · obtain ⟨j, rfl⟩ : ∃ j, k = j + 1 := ⟨k - 1, by omega⟩
        exact h2 j (by omega)
def lessW (w : List Nat) : List Nat := match lastOne w with
  | none => []
  | some i => w.take i ++ 48 :: List.replicate (w.length - i - 1) 49
def stepW (ns : List Nat) (st : List (List Nat) × Option (List Nat)) (p : Nat) : List (List Nat) × Option (List Nat) :=
  let b := match st.2 with
    | none => []
    | some w => lessW w
  let a := b ++ List.replicate (ns.getD p 0 - b.length) 49
  (st.1.set p a, some a)
def okW (ns : List Nat) : List Nat → List (List Nat) × Option (List Nat) → Bool
  | [], _ => true
  | p :: r, st => (match st.2 with
    | none => true
    | some w => (lastOne w).isSome) && okW ns r (stepW ns st p)
def iv (ns : List Nat) : List Int := ns.map fun (n : Nat) => (n : Int)
def startW (ns : List Nat) : List (List Nat) × Option (List Nat) := (List.replicate ns.length [], none)
def wordsOf (ns : List Nat) : List (List Nat) := ((buckets (fun i => (iv ns).getD i 0) ns.length).foldl (stepW ns) (startW ns)).1
def lightL : List Nat := [6, 4, 4, 4, 4, 4, 5, 5, 5, 5, 6, 6, 6, 6, 6, 6, 4, 5, 6, 4]
def darkL : List Nat := [7, 2, 3, 3, 4, 4, 5, 5, 5, 6, 6, 6, 7, 7, 7, 7, 6, 7, 7, 7]
def bitsVal (w : List Nat) : Nat := w.foldl (fun n c => 2 * n + if c = 49 then 1 else 0) 0
def bitsOf : Nat → Nat → List Nat → List Nat
  | 0, _, acc => acc
  | k + 1, n, acc => bitsOf k (n / 2) ((48 + n % 2) :: acc)
def lawLess (w : List Nat) : Option (List Nat) := if bitsVal w = 0 then none else some (bitsOf w.length (bitsVal w - 1) [])
def stepL (ns : List Nat) (len : Nat) (st : Option (List (List Nat) × List Nat)) (p : Nat) : Option (List (List Nat) × List Nat) := match st with
  | none => none
  | some (f, l) => if ns.getD p 0 = len then (match (if l = [] then some [] else lawLess l) with
      | none => none
      | some b => some (f.set p (b ++ List.replicate (len - b.length) 49), b ++ List.replicate (len - b.length) 49)) else some (f, l)
def rowL (ns : List Nat) (st : Option (List (List Nat) × List Nat)) (len : Nat) : Option (List (List Nat) × List Nat) := (List.range ns.length).foldl (stepL ns len) st
def lawW (ns : List Nat) : Option (List (List Nat) × List Nat) := ((List.range 12).map (· + 1)).foldl (rowL ns) (some (List.replicate ns.length [], []))
theorem light_ok : okW lightL (buckets (fun i => (iv lightL).getD i 0) lightL.length) (startW lightL) = true := by decide +kernel
theorem dark_ok : okW darkL (buckets (fun i => (iv darkL).getD i 0) darkL.length) (startW darkL) = true := by decide +kernel
theorem light_same : (lawW lightL).map (·.1) = some (wordsOf lightL) := by decide +kernel
theorem dark_same : (lawW darkL).map (·.1) = some (wordsOf darkL) := by decide +kernel
theorem third_some : (lawW [1, 3, 3, 3, 5, 5, 6, 6, 6]).isSome = true := by decide +kernel

theorem okW_at {ns : List Nat} : ∀ (ord : List Nat) (st0 : List (List Nat) × Option (List Nat)) (i p : Nat), ord[i]? = some p → okW ns ord st0 = true → ∀ w, ((ord.take i).foldl (stepW ns) st0).2 = some w → ∃ j, lastOne w = some j
  | [], _, i, p, h, _ => by simp at h
  | q :: r, st0, 0, p, h, ok => fun w hw => by
    unfold okW at ok
    rw [Bool.and_eq_true] at ok
    have h1 := ok.1
    have hw : st0.2 = some w := hw
    rw [hw] at h1
    exact Option.isSome_iff_exists.mp h1
  | q :: r, st0, i + 1, p, h, ok => by
    unfold okW at ok
    rw [Bool.and_eq_true] at ok
    exact okW_at r (stepW ns st0 q) i p h ok.2
def LenW (st : List (List Nat) × Option (List Nat)) : Prop := ∀ w, st.2 = some w → w.length ≤ 12
theorem lessW_le (w : List Nat) : (lessW w).length ≤ w.length := by
  unfold lessW
  rcases lastOne_spec w with ⟨e, _⟩ | ⟨i, e, h1, _⟩
  · rw [e]
    exact Nat.zero_le _
  · rw [e]
    have := (List.getElem?_eq_some_iff.mp h1).1
    show (w.take i ++ 48 :: List.replicate (w.length - i - 1) 49).length ≤ w.length
    rw [List.length_append, List.length_cons, List.length_replicate, List.length_take]
    omega
theorem lenW_step {ns : List Nat} (hn : ∀ n ∈ ns, n ≤ 12) {st : List (List Nat) × Option (List Nat)} (h : LenW st) (p : Nat) : LenW (stepW ns st p) := by
  intro w hw
  have hg : ns.getD p 0 ≤ 12 := by
    rw [List.getD_eq_getElem?_getD]
    cases e : ns[p]? with
    | none => exact Nat.zero_le _
    | some n => exact hn n (List.mem_of_getElem? e)
  have e : (match st.2 with | none => [] | some w => lessW w) ++ List.replicate (ns.getD p 0 - (match st.2 with | none => [] | some w => lessW w).length) 49 = w := Option.some.inj hw
  rw [← e, List.length_append, List.length_replicate]
  cases h2 : st.2 with
  | none => show 0 + (ns.getD p 0 - 0) ≤ 12; omega
  | some u =>
    have := h u h2
    have := lessW_le u
    show (lessW u).length + (ns.getD p 0 - (lessW u).length) ≤ 12
    omega
theorem lenW_fold {ns : List Nat} (hn : ∀ n ∈ ns, n ≤ 12) : ∀ (ord : List Nat) (st : List (List Nat) × Option (List Nat)), LenW st → LenW (ord.foldl (stepW ns) st)
  | [], _, h => h
  | p :: r, st, h => lenW_fold hn r _ (lenW_step hn h p)
theorem lenW_start (ns : List Nat) : LenW (startW ns) := fun w h => nomatch h
theorem words_len (ns : List Nat) : ∀ (ord : List Nat) (st : List (List Nat) × Option (List Nat)), (ord.foldl (stepW ns) st).1.length = st.1.length
  | [], _ => rfl
  | p :: r, st => by
    rw [List.foldl_cons, words_len ns r]
    exact List.length_set
theorem mem_buckets {k : Nat → Int} {n p : Nat} (h : p ∈ buckets k n) : p < n := by
  unfold buckets at h
  obtain ⟨v, _, hv⟩ := List.mem_flatMap.mp h
  exact List.mem_range.mp (List.mem_filter.mp hv).1
theorem iv_len (ns : List Nat) : (iv ns).length = ns.length := List.length_map ..
theorem order_iv {ns : List Nat} (hn : ∀ n ∈ ns, n ≤ 12) : orderOf (iv ns) = buckets (fun i => (iv ns).getD i 0) ns.length := by
  unfold orderOf
  rw [iv_len]
  refine order_buckets _ _ fun i hi => ?_
  have e : (iv ns).getD i 0 = (ns[i] : Int) := by
    unfold iv
    rw [List.getD_eq_getElem?_getD, List.getElem?_map, List.getElem?_eq_getElem hi]
    rfl
  have := hn ns[i] (List.getElem_mem hi)
  show 0 ≤ (iv ns).getD i 0 ∧ (iv ns).getD i 0 ≤ 12
  rw [e]
  omega
theorem lens_light : ∀ w ∈ Fp.wordsOf lightL, w.length ≤ 12 := by decide +kernel
theorem lens_dark : ∀ w ∈ Fp.wordsOf darkL, w.length ≤ 12 := by decide +kernel
theorem len_light : (Fp.wordsOf lightL).length = 20 := by decide +kernel
theorem len_dark : (Fp.wordsOf darkL).length = 20 := by decide +kernel
def runT (W : List (List Nat)) (r : Nat) : List Nat := if r < 16 then W.getD r [] else W.getD (15 + r / 16) [] ++ W.getD (r - r / 16 * 16) []
theorem foldl_keep {α β : Type} (f : Option α → β → Option α) (h : ∀ b, f none b = none) : ∀ l : List β, l.foldl f none = none
  | [] => rfl
  | b :: r => by
    rw [List.foldl_cons, h]
    exact foldl_keep f h r
theorem fold_take {α β : Type} (f : Option α → β → Option α) (h : ∀ b, f none b = none) (l : List β) (s : Option α) (i : Nat) (e : (l.take i).foldl f s = none) : l.foldl f s = none := by
  rw [← List.take_append_drop i l, List.foldl_append, e]
  exact foldl_keep f h _
theorem stepL_none (ns : List Nat) (len p : Nat) : stepL ns len none p = none := rfl
theorem rowL_none (ns : List Nat) (len : Nat) : rowL ns none len = none := foldl_keep _ (stepL_none ns len) _
def ls12 : List Nat := (List.range 12).map (· + 1)
theorem ls12_at {i : Nat} (h : i < 12) : ls12[i]? = some (i + 1) := by
  unfold ls12
  rw [List.getElem?_map, List.getElem?_range h]
  rfl
theorem lawW_eq (ns : List Nat) : lawW ns = ls12.foldl (rowL ns) (some (List.replicate ns.length [], [])) := rfl
theorem lawLess_len {l b : List Nat} (h : lawLess l = some b) : b.length = l.length := by
  have key : ∀ (k n : Nat) (acc : List Nat), (bitsOf k n acc).length = k + acc.length := by
    intro k
    induction k with
    | zero => intro n acc; show acc.length = 0 + acc.length; omega
    | succ k ih =>
      intro n acc
      show (bitsOf k (n / 2) ((48 + n % 2) :: acc)).length = _
      rw [ih, List.length_cons]
      omega
  unfold lawLess at h
  split at h
  · cases h
  · have := Option.some.inj h
    rw [← this, key]
    rfl
theorem stepL_no {ns : List Nat} {len p : Nat} {f : List (List Nat)} {l : List Nat} (h : ¬ ns.getD p 0 = len) : stepL ns len (some (f, l)) p = some (f, l) := if_neg h
theorem stepL_yes {ns : List Nat} {len p : Nat} {f : List (List Nat)} {l b : List Nat} (h : ns.getD p 0 = len) (hb : (if l = [] then some [] else lawLess l) = some b) :
    stepL ns len (some (f, l)) p = some (f.set p (b ++ List.replicate (len - b.length) 49), b ++ List.replicate (len - b.length) 49) := by
  refine (if_pos h).trans ?_
  rw [hb]
theorem stepL_bad {ns : List Nat} {len p : Nat} {f : List (List Nat)} {l : List Nat} (h : ns.getD p 0 = len) (hb : (if l = [] then some [] else lawLess l) = none) : stepL ns len (some (f, l)) p = none := by
  refine (if_pos h).trans ?_
  rw [hb]
end Fp

set_option Elab.async false
set_option linter.all false
set_option maxRecDepth 100000
set_option maxHeartbeats 4000000
/-! words by lengths: which lengths have words, and that no word begins another. -/
namespace Fp
open PySem PyProof.Rows
abbrev veB : List Value := [.type "ValueError", .type "Exception", .type "BaseException", .type "object"]
theorem exm_own {K : PySem.W.Frag} {S : Addr} (h1 : PySem.W.subIn K (.ref S) (.type "BaseException") = some true) (h2 : PySem.W.isClsIn K S = true) (h3 : PySem.W.typeIn K (.ref S) = some (.type "type")) (h4 : PySem.W.subIn K (.ref S) (.ref S) = some true) : PySem.W.exmOne K (.ref S) (.ref S) = some true := by
  unfold PySem.W.isClsIn at h2
  simp [PySem.W.exmOne, PySem.W.kitCls, h1, h2, h3, h4]
def wt (n : Nat) : Nat := 2 ^ (12 - n)
def sumW (ns ps : List Nat) : Nat := (ps.map fun p => wt (ns.getD p 0)).sum
def Bits (w : List Nat) : Prop := ∀ c ∈ w, c = 48 ∨ c = 49
def lo (w : List Nat) : Nat := bitsVal w * wt w.length
theorem val_from (w : List Nat) : ∀ a : Nat, w.foldl (fun n c => 2 * n + if c = 49 then 1 else 0) a = a * 2 ^ w.length + bitsVal w := by
  induction w with
  | nil => intro a; show a = a * 1 + 0; omega
  | cons c r ih =>
    intro a
    have e1 := ih (2 * a + if c = 49 then 1 else 0)
    have e2 := ih (2 * 0 + if c = 49 then 1 else 0)
    show r.foldl _ (2 * a + if c = 49 then 1 else 0) = a * 2 ^ (r.length + 1) + r.foldl _ (2 * 0 + if c = 49 then 1 else 0)
    rw [e1, e2, Nat.pow_succ, Nat.add_mul, Nat.mul_zero, Nat.zero_add, ← Nat.add_assoc]
    congr 2
    rw [Nat.mul_comm (2 ^ r.length) 2, ← Nat.mul_assoc, Nat.mul_comm a 2]
theorem val_app (u v : List Nat) : bitsVal (u ++ v) = bitsVal u * 2 ^ v.length + bitsVal v := by
  show (u ++ v).foldl _ 0 = _
  rw [List.foldl_append]
  exact val_from v _
theorem val_cons (c : Nat) (r : List Nat) : bitsVal (c :: r) = (if c = 49 then 1 else 0) * 2 ^ r.length + bitsVal r := by
  show r.foldl _ (2 * 0 + if c = 49 then 1 else 0) = _
  rw [val_from, Nat.mul_zero, Nat.zero_add]
theorem val_ones (n : Nat) : bitsVal (List.replicate n 49) + 1 = 2 ^ n := by
  induction n with
  | zero => rfl
  | succ k ih =>
    rw [List.replicate_succ, val_cons, if_pos rfl, List.length_replicate, Nat.one_mul, Nat.pow_succ, Nat.add_assoc, ih]
    omega
theorem val_lt (w : List Nat) : bitsVal w < 2 ^ w.length := by
  induction w with
  | nil => exact Nat.one_pos
  | cons c r ih =>
    rw [val_cons, List.length_cons, Nat.pow_succ]
    split <;> omega
theorem val_none {w : List Nat} (h : ∀ i : Nat, w[i]? ≠ some 49) : bitsVal w = 0 := by
  induction w with
  | nil => rfl
  | cons c r ih =>
    rw [val_cons, if_neg (fun e => h 0 (by rw [e]; rfl)), Nat.zero_mul, Nat.zero_add]
    exact ih fun i => h (i + 1)
theorem less_val {w : List Nat} {i : Nat} (hb : Bits w) (h : lastOne w = some i) : Bits (lessW w) ∧ (lessW w).length = w.length ∧ bitsVal (lessW w) + 1 = bitsVal w := by
  rcases lastOne_spec w with ⟨e, _⟩ | ⟨i2, e, h1, h2⟩
  · rw [e] at h
    cases h
  · rw [e] at h
    cases h
    obtain ⟨hi, h1'⟩ := List.getElem?_eq_some_iff.mp h1
    have ew : w = w.take i ++ 49 :: w.drop (i + 1) := by
      conv => lhs; rw [← List.take_append_drop i w]
      rw [List.drop_eq_getElem_cons hi, h1']
    have hz : bitsVal (w.drop (i + 1)) = 0 := val_none fun k => by
      rw [List.getElem?_drop]
      exact h2 _ (by omega)
    have dl : (w.drop (i + 1)).length = w.length - i - 1 := by rw [List.length_drop]; omega
    have el : lessW w = w.take i ++ 48 :: List.replicate (w.length - i - 1) 49 := by
      unfold lessW
      rw [e]
    refine ⟨fun c hc => ?_, ?_, ?_⟩
    · rw [el] at hc
      rcases List.mem_append.mp hc with z | z
      · exact hb c (List.mem_of_mem_take z)
      · rcases List.mem_cons.mp z with z | z
        · exact .inl z
        · exact .inr (List.mem_replicate.mp z).2
    · rw [el, List.length_append, List.length_cons, List.length_replicate, List.length_take]
      omega
    · have v1 : bitsVal w = bitsVal (w.take i) * 2 ^ (w.length - i - 1 + 1) + 2 ^ (w.length - i - 1) := by
        conv => lhs; rw [ew]
        rw [val_app, val_cons, if_pos rfl, hz, List.length_cons, dl, Nat.one_mul]
        rfl
      have v2 : bitsVal (lessW w) = bitsVal (w.take i) * 2 ^ (w.length - i - 1 + 1) + bitsVal (List.replicate (w.length - i - 1) 49) := by
        rw [el, val_app, val_cons, if_neg (by decide), List.length_cons, List.length_replicate, Nat.zero_mul, Nat.zero_add]
      rw [v1, v2, Nat.add_assoc, val_ones]
theorem new_word {u : List Nat} {v n : Nat} (hb : Bits u) (hl : u.length ≤ n) (hn : n ≤ 12) (hv : bitsVal u + 1 = v) : Bits (u ++ List.replicate (n - u.length) 49) ∧ (u ++ List.replicate (n - u.length) 49).length = n ∧ lo (u ++ List.replicate (n - u.length) 49) + wt n = v * wt u.length := by
  have l : (u ++ List.replicate (n - u.length) 49).length = n := by
    rw [List.length_append, List.length_replicate]
    omega
  refine ⟨fun c hc => ?_, l, ?_⟩
  · rcases List.mem_append.mp hc with z | z
    · exact hb c z
    · exact .inr (List.mem_replicate.mp z).2
  · unfold lo
    rw [l]
    have e : bitsVal (u ++ List.replicate (n - u.length) 49) + 1 = v * 2 ^ (n - u.length) := by
      rw [val_app, List.length_replicate, Nat.add_assoc, val_ones, ← hv, Nat.add_mul, Nat.one_mul]
    have e2 : bitsVal (u ++ List.replicate (n - u.length) 49) * wt n + wt n = (bitsVal (u ++ List.replicate (n - u.length) 49) + 1) * wt n := by
      rw [Nat.add_mul, Nat.one_mul]
    rw [e2, e, Nat.mul_assoc]
    congr 1
    unfold wt
    rw [← Nat.pow_add]
    congr 1
    omega
def Ap (u v : List Nat) : Prop := lo u + wt u.length ≤ lo v ∨ lo v + wt v.length ≤ lo u
structure Iv (ns done : List Nat) (st : List (List Nat) × Option (List Nat)) : Prop where
  len : st.1.length = ns.length
  no : st.2 = none → done = []
  last : ∀ w, st.2 = some w → Bits w ∧ w.length ≤ 12 ∧ lo w + sumW ns done = 4096
  each : ∀ p ∈ done, Bits (st.1.getD p []) ∧ (st.1.getD p []).length = ns.getD p 0 ∧ 4096 ≤ lo (st.1.getD p []) + sumW ns done
  apart : ∀ p ∈ done, ∀ q ∈ done, p ≠ q → Ap (st.1.getD p []) (st.1.getD q [])
theorem iv_start (ns : List Nat) : Iv ns [] (startW ns) where
  len := List.length_replicate
  no := fun _ => rfl
  last := fun w h => nomatch h
  each := fun p h => nomatch h
  apart := fun p h => nomatch h
theorem getD_set {l : List (List Nat)} {p q : Nat} {a : List Nat} (h : p < l.length) : (l.set p a).getD q [] = if p = q then a else l.getD q [] := by
  rw [List.getD_eq_getElem?_getD, List.getElem?_set]
  by_cases e : p = q
  · rw [if_pos e, if_pos e, if_pos h]
    rfl
  · rw [if_neg e, if_neg e, List.getD_eq_getElem?_getD]
theorem iv_step {ns done : List Nat} {st : List (List Nat) × Option (List Nat)} {p : Nat} (h : Iv ns done st) (hp : p < ns.length) (nd : p ∉ done) (h12 : ns.getD p 0 ≤ 12) (hs : ∀ w, st.2 = some w → w.length ≤ ns.getD p 0 ∧ ∃ i, lastOne w = some i) : Iv ns (p :: done) (stepW ns st p) ∧ ∀ w, (stepW ns st p).2 = some w → w.length = ns.getD p 0 := by
  obtain ⟨a, ea, ba, la, sa⟩ : ∃ a, stepW ns st p = (st.1.set p a, some a) ∧ Bits a ∧ a.length = ns.getD p 0 ∧ lo a + wt (ns.getD p 0) + sumW ns done = 4096 := by
    cases e : st.2 with
    | none =>
      have n := new_word (u := []) (v := 1) (n := ns.getD p 0) (fun c hc => nomatch hc) (Nat.zero_le _) h12 rfl
      refine ⟨_, by unfold stepW; rw [e], n.1, n.2.1, ?_⟩
      rw [h.no e, n.2.2]
      rfl
    | some w =>
      obtain ⟨hl, i, hi⟩ := hs w e
      obtain ⟨b1, b2, b3⟩ := h.last w e
      obtain ⟨c1, c2, c3⟩ := less_val b1 hi
      have n := new_word (u := lessW w) (v := bitsVal w) (n := ns.getD p 0) c1 (by omega) h12 c3
      refine ⟨_, by unfold stepW; rw [e], n.1, n.2.1, ?_⟩
      rw [n.2.2, c2]
      exact b3
  have sc : sumW ns (p :: done) = wt (ns.getD p 0) + sumW ns done := by
    unfold sumW
    rw [List.map_cons, List.sum_cons]
  have g : ∀ q, (st.1.set p a).getD q [] = if p = q then a else st.1.getD q [] := fun q => getD_set (by rw [h.len]; exact hp)
  rw [ea]
  refine ⟨⟨by rw [List.length_set]; exact h.len, (fun z => nomatch z), fun w hw => ?_, fun q hq => ?_, fun q hq r hr ne => ?_⟩, fun w hw => ?_⟩
  · cases hw
    exact ⟨ba, by omega, by rw [sc]; omega⟩
  · rw [g, sc]
    by_cases e : p = q
    · rw [if_pos e, ← e]
      exact ⟨ba, la, by omega⟩
    · rw [if_neg e]
      rcases List.mem_cons.mp hq with z | z
      · exact absurd z.symm e
      · have := h.each q z
        exact ⟨this.1, this.2.1, by omega⟩
  · show Ap ((st.1.set p a).getD q []) ((st.1.set p a).getD r [])
    rw [g, g]
    by_cases e : p = q
    · rw [if_pos e, if_neg (by omega)]
      rcases List.mem_cons.mp hr with z | z
      · omega
      · have := (h.each r z).2.2
        exact .inl (by rw [la]; omega)
    · rw [if_neg e]
      by_cases e2 : p = r
      · rw [if_pos e2]
        rcases List.mem_cons.mp hq with z | z
        · omega
        · have := (h.each q z).2.2
          exact .inr (by rw [la]; omega)
      · rw [if_neg e2]
        rcases List.mem_cons.mp hq with z | z
        · omega
        · rcases List.mem_cons.mp hr with y | y
          · omega
          · exact h.apart q z r y ne
  · cases hw
    exact la
theorem wt_pos (n : Nat) : 0 < wt n := Nat.pow_pos (by decide)
theorem iv_run {ns : List Nat} : ∀ (rest done : List Nat) (st : List (List Nat) × Option (List Nat)), Iv ns done st → rest.Nodup → (∀ p ∈ rest, p < ns.length ∧ p ∉ done ∧ ns.getD p 0 ≤ 12) → rest.Pairwise (fun p q => ns.getD p 0 ≤ ns.getD q 0) → (∀ w, st.2 = some w → ∀ p ∈ rest, w.length ≤ ns.getD p 0) →
    (okW ns rest st = true → Iv ns (rest.reverse ++ done) (rest.foldl (stepW ns) st)) ∧ (okW ns rest st = false → 4096 < sumW ns done + sumW ns rest)
  | [], done, st, h, _, _, _, _ => ⟨fun _ => h, fun z => nomatch z⟩
  | p :: r, done, st, h, nd, hp, so, hl => by
    have n1 := List.nodup_cons.mp nd
    have s1 := List.pairwise_cons.mp so
    have p1 := hp p (List.mem_cons_self ..)
    have sr : sumW ns (p :: r) = wt (ns.getD p 0) + sumW ns r := by
      unfold sumW
      rw [List.map_cons, List.sum_cons]
    by_cases ok : ∀ w, st.2 = some w → ∃ i, lastOne w = some i
    · have okr : okW ns (p :: r) st = okW ns r (stepW ns st p) := by
        show ((match st.2 with | none => true | some w => (lastOne w).isSome) && okW ns r (stepW ns st p)) = _
        cases e : st.2 with
        | none => rfl
        | some w =>
          obtain ⟨i, hi⟩ := ok w e
          show ((lastOne w).isSome && _) = _
          rw [hi]
          rfl
      obtain ⟨st1, st2⟩ := iv_step h p1.1 p1.2.1 p1.2.2 fun w hw => ⟨hl w hw p (List.mem_cons_self ..), ok w hw⟩
      have ih := iv_run r (p :: done) (stepW ns st p) st1 n1.2 (fun q hq => ?_) s1.2 (fun w hw q hq => ?_)
      · rw [okr]
        refine ⟨fun z => ?_, fun z => ?_⟩
        · have := ih.1 z
          rw [List.reverse_cons, List.append_assoc]
          exact this
        · have := ih.2 z
          have sc : sumW ns (p :: done) = wt (ns.getD p 0) + sumW ns done := by
            unfold sumW
            rw [List.map_cons, List.sum_cons]
          omega
      · have := hp q (List.mem_cons_of_mem _ hq)
        refine ⟨this.1, fun z => ?_, this.2.2⟩
        rcases List.mem_cons.mp z with y | y
        · exact n1.1 (y ▸ hq)
        · exact this.2.1 y
      · rw [st2 w hw]
        exact s1.1 q hq
    · obtain ⟨w, hw, no⟩ : ∃ w, st.2 = some w ∧ ¬ ∃ i, lastOne w = some i := by
        cases e : st.2 with
        | none => exact absurd (fun w hw => nomatch e.symm.trans hw) ok
        | some w => exact ⟨w, rfl, fun z => ok fun u hu => by rw [e] at hu; cases hu; exact z⟩
      have hz : lastOne w = none := by
        cases e : lastOne w with
        | none => rfl
        | some i => exact absurd ⟨i, e⟩ no
      have okf : okW ns (p :: r) st = false := by
        show ((match st.2 with | none => true | some w => (lastOne w).isSome) && okW ns r (stepW ns st p)) = false
        rw [hw]
        show ((lastOne w).isSome && _) = false
        rw [hz]
        rfl
      rw [okf]
      refine ⟨(fun z => nomatch z), fun _ => ?_⟩
      have l0 : lo w = 0 := by
        rcases lastOne_spec w with ⟨_, h2⟩ | ⟨i, e, _⟩
        · unfold lo
          rw [val_none h2, Nat.zero_mul]
        · exact absurd ⟨i, e⟩ no
      have := (h.last w hw).2.2
      have := wt_pos (ns.getD p 0)
      omega
theorem prefix_lo {u v : List Nat} (hv : v.length ≤ 12) (h : v.take u.length = u) : lo u ≤ lo v ∧ lo v < lo u + wt u.length := by
  have ll : u.length ≤ v.length := by
    have := congrArg List.length h
    rw [List.length_take] at this
    omega
  have ev : v = u ++ v.drop u.length := by
    conv => lhs; rw [← List.take_append_drop u.length v]
    rw [h]
  have e1 : bitsVal v = bitsVal u * 2 ^ (v.length - u.length) + bitsVal (v.drop u.length) := by
    conv => lhs; rw [ev]
    rw [val_app, List.length_drop]
  have e2 := val_lt (v.drop u.length)
  rw [List.length_drop] at e2
  have e3 : wt u.length = 2 ^ (v.length - u.length) * wt v.length := by
    unfold wt
    rw [← Nat.pow_add]
    congr 1
    omega
  unfold lo
  rw [e1, e3, Nat.add_mul, Nat.mul_assoc]
  have := wt_pos v.length
  refine ⟨Nat.le_add_right _ _, Nat.add_lt_add_left ?_ _⟩
  exact Nat.mul_lt_mul_of_pos_right e2 this
theorem ap_no {u v : List Nat} (hv : v.length ≤ 12) (h : Ap u v) : v.take u.length ≠ u := fun e => by
  have := prefix_lo hv e
  have := wt_pos v.length
  rcases h with z | z <;> omega
theorem sum_range (ns : List Nat) : sumW ns (List.range ns.length) = (ns.map wt).sum := by
  unfold sumW
  congr 1
  apply List.ext_getElem?
  intro i
  rw [List.getElem?_map, List.getElem?_map]
  by_cases h : i < ns.length
  · rw [List.getElem?_range h, List.getElem?_eq_getElem h, Option.map_some, Option.map_some, List.getD_eq_getElem?_getD, List.getElem?_eq_getElem h]
    rfl
  · rw [List.getElem?_eq_none (by rw [List.length_range]; omega), List.getElem?_eq_none (by omega)]
    rfl
theorem iv_getD (ns : List Nat) (p : Nat) : (iv ns).getD p 0 = ((ns.getD p 0 : Nat) : Int) := by
  unfold iv
  rw [List.getD_eq_getElem?_getD, List.getElem?_map, List.getD_eq_getElem?_getD]
  cases ns[p]? <;> rfl
/-- the whole: refused where the parts are too many; else the words fit and stand apart -/
theorem words_whole {ns : List Nat} (hn : ∀ n ∈ ns, n ≤ 12) :
    (okW ns (buckets (fun i => (iv ns).getD i 0) ns.length) (startW ns) = false → 4096 < (ns.map wt).sum) ∧
    (okW ns (buckets (fun i => (iv ns).getD i 0) ns.length) (startW ns) = true → (ns.map wt).sum ≤ 4096 ∧ (wordsOf ns).length = ns.length ∧ (∀ p, p < ns.length → Bits ((wordsOf ns).getD p []) ∧ ((wordsOf ns).getD p []).length = ns.getD p 0) ∧
      ∀ p q, p < ns.length → q < ns.length → p ≠ q → ((wordsOf ns).getD q []).take ((wordsOf ns).getD p []).length ≠ (wordsOf ns).getD p []) := by
  have ho := order_iv hn
  have perm : (orderOf (iv ns)).Perm (List.range ns.length) := by
    unfold orderOf
    rw [iv_len]
    exact List.mergeSort_perm ..
  have srt : (orderOf (iv ns)).Pairwise (fun p q => ns.getD p 0 ≤ ns.getD q 0) := by
    have tr : ∀ a b c : Nat, leK (fun i => (iv ns).getD i 0) a b = true → leK (fun i => (iv ns).getD i 0) b c = true → leK (fun i => (iv ns).getD i 0) a c = true := fun a b c h1 h2 => by
      unfold leK at *
      have := of_decide_eq_true h1
      have := of_decide_eq_true h2
      exact decide_eq_true (by omega)
    have to : ∀ a b : Nat, (leK (fun i => (iv ns).getD i 0) a b || leK (fun i => (iv ns).getD i 0) b a) = true := fun a b => by
      unfold leK
      rw [Bool.or_eq_true, decide_eq_true_eq, decide_eq_true_eq]
      omega
    have := List.pairwise_mergeSort tr to (List.range (iv ns).length)
    refine List.Pairwise.imp (fun {a b} h => ?_) this
    have h2 := of_decide_eq_true h
    have h3 : (iv ns).getD a 0 ≤ (iv ns).getD b 0 := h2
    rw [iv_getD, iv_getD] at h3
    omega
  rw [← ho]
  have hg : ∀ p, ns.getD p 0 ≤ 12 := fun p => by
    rw [List.getD_eq_getElem?_getD]
    cases e : ns[p]? with
    | none => exact Nat.zero_le _
    | some n => exact hn n (List.mem_of_getElem? e)
  have main := iv_run (ns := ns) (orderOf (iv ns)) [] (startW ns) (iv_start ns) (perm.nodup_iff.mpr List.nodup_range) (fun p hp => ⟨List.mem_range.mp (perm.mem_iff.mp hp), (fun z => nomatch z), hg p⟩) srt (fun w hw => nomatch hw)
  have es : sumW ns (orderOf (iv ns)) = (ns.map wt).sum := by
    rw [← sum_range]
    unfold sumW
    exact (perm.map _).sum_nat
  refine ⟨fun z => ?_, fun z => ?_⟩
  · have := main.2 z
    rw [es] at this
    have s0 : sumW ns [] = 0 := rfl
    omega
  · have I := main.1 z
    have hw : ((orderOf (iv ns)).foldl (stepW ns) (startW ns)).1 = wordsOf ns := by
      unfold wordsOf
      rw [ho]
    have sr : sumW ns ((orderOf (iv ns)).reverse ++ []) = (ns.map wt).sum := by
      rw [← es, List.append_nil]
      unfold sumW
      exact ((List.reverse_perm _).map _).sum_nat
    have mem : ∀ p, p < ns.length → p ∈ (orderOf (iv ns)).reverse ++ [] := fun p hp => by
      rw [List.append_nil, List.mem_reverse]
      exact perm.mem_iff.mpr (List.mem_range.mpr hp)
    refine ⟨?_, by rw [← hw]; exact I.len, fun p hp => ?_, fun p q hp hq ne => ?_⟩
    · rw [← sr]
      cases e : ((orderOf (iv ns)).foldl (stepW ns) (startW ns)).2 with
      | none =>
        rw [I.no e]
        exact Nat.zero_le _
      | some w =>
        have := (I.last w e).2.2
        omega
    · rw [← hw]
      have := I.each p (mem p hp)
      exact ⟨this.1, this.2.1⟩
    · rw [← hw]
      have l := (I.each q (mem q hq)).2.1
      exact ap_no (by rw [l]; exact hg q) (I.apart p (mem p hp) q (mem q hq) ne)
theorem okW_snoc {ns : List Nat} (p : Nat) : ∀ (l : List Nat) (st : List (List Nat) × Option (List Nat)), okW ns l st = true → (∀ w, (l.foldl (stepW ns) st).2 = some w → ∃ i, lastOne w = some i) → okW ns (l ++ [p]) st = true
  | [], st, _, h => by
    show ((match st.2 with | none => true | some w => (lastOne w).isSome) && true) = true
    cases e : st.2 with
    | none => rfl
    | some w =>
      obtain ⟨i, hi⟩ := h w e
      show ((lastOne w).isSome && true) = true
      rw [hi]
      rfl
  | q :: r, st, ok, h => by
    have ok : ((match st.2 with | none => true | some w => (lastOne w).isSome) && okW ns r (stepW ns st q)) = true := ok
    rw [Bool.and_eq_true] at ok
    show ((match st.2 with | none => true | some w => (lastOne w).isSome) && okW ns (r ++ [p]) (stepW ns st q)) = true
    rw [Bool.and_eq_true]
    exact ⟨ok.1, okW_snoc p r _ ok.2 h⟩
end Fp

set_option Elab.async false
set_option linter.all false
set_option maxRecDepth 100000
set_option maxHeartbeats 4000000
/-! within an except suite (and in defs called from one): a list comprehension, isinstance of the handled error. -/
namespace Fp
open PySem PySem.Spec PyProof.Rows L2 L2H HotX
section
variable {X : Cx}
/-- the block of a comprehension that keeps the pins of the def around it -/
abbrev hotBlk (X : Cx) (s : Shared) (H : Hp) (scope : Scope) (ce : Env) (fp : List Addr) : Cx := { X.blk s H scope ce fp with pn := X.pn }
theorem hotBlk_hot {s : Shared} {H : Hp} {scope : Scope} {ce : Env} {fp : List Addr} (hc : HotC X) : HotC (hotBlk X s H scope ce fp) := hc
theorem hotBlk_inv {pins : List (Addr × Obj)} {σ τ : L2.St} {H H' : Hp} {s s' : Shared} {scope : Scope} {ce : Env} {fp : List Addr} (I : Inv X pins σ H s) (J : Inv (X.blk s H scope ce fp) [] τ H' s') (k : ∀ b o, s.heap.get? b = some o → s'.heap.get? b = some o) (hH : ∀ b, H b = none → b < s.heap.objs.size → H' b = none) (hl : s.heap.objs.size ≤ ce.locals) :
    Inv (hotBlk X s H scope ce fp) [] τ H' s' :=
  ⟨⟨J.ok.mod, J.ok.kind, J.ok.glob, J.ok.blt, J.ok.above, J.ok.inj, J.ok.has, J.ok.cab, J.ok.hd, J.ok.frames, J.ok.stk, J.ok.exf, J.ok.bs, J.ok.bsz, J.ok.noex, J.ok.exfs, J.ok.funs, J.ok.frf⟩, J.os, J.bare, J.base, J.loc, J.cell, J.free, J.freeC, fun p hp => by
    have hp : p ∈ X.pn := by simpa using hp
    obtain ⟨g, f, l, n, c⟩ := I.pin p (List.mem_append_left _ hp)
    have lt := Heap.lt_size g
    refine ⟨k _ _ g, hH _ f lt, fun z => ?_, fun hm => ?_, c⟩
    · have z : p.1 = ce.locals := z
      rw [z] at lt
      exact absurd lt (Nat.not_lt.mpr hl)
    · exact (List.mem_cons.mp (I.stkSub p.1 hm)).elim l n, J.hok, J.len⟩
theorem pe_lcHot {elt tg iter : Expr} {scope : Scope} {own : List (Str × Nat)} {pos : Pos} {wi : TI} {g : TG} {te : TE} (hc : HotC X) (hN : X.N.Nodup) (hi : PIH X tg iter wi) (ok : BlkOk X.N X.env.scope scope own)
    (hg : ∀ (s : Shared) (H : Hp) (C : Addr) (cl : List (Str × Addr)) (fp : List Addr), PG (hotBlk X s H scope (compEnvC scope cl C X.env) fp) tg g)
    (he : ∀ (s : Shared) (H : Hp) (C : Addr) (cl : List (Str × Addr)) (fp : List Addr), PE (hotBlk X s H scope (compEnvC scope cl C X.env) fp) elt te) (hs : ∀ x, foldedSetIterable iter X.env x = pure x := by intro _; rfl) :
    PE X (.ListComp elt [⟨tg, iter, [], 0⟩] scope pos) (tLc wi g tYes te (own.map (·.2))) := by
  refine ⟨fun pins s σ H Q I h => ?_⟩
  rw [eval_ListComp]
  have cf : ∀ y ∈ scope.names, y.2 = .free → ∃ c, X.env.cells.lookup y.1 = some c := fun y hy e => (ok.free y hy e).elim (fun k => I.ok.has _ (.inl k)) (fun k => I.ok.has _ (.inr k))
  refine wpAny_comprehension_free rfl hs (closure_ok cf) ok.kind (fun y hy e => by rw [ok.uniq y hy, e]) (thn (hi.run pins s σ H _ I h) fun xv s1 hx => thn hx fun itv s2 h2 => ?_)
  obtain ⟨it, fp, tn, J, H2, rfl, I2, T, st2, f2, q⟩ := h2
  refine wpAny_newObj_type (newEnv_comp ?_) (by show 0 ≤ sizeLine; decide)
  obtain ⟨D, hD⟩ : ∃ D, s2.heap.objs.size = D := ⟨_, rfl⟩
  obtain ⟨s3, e3⟩ : ∃ s3 : Shared, s3 = { s2 with heap := s2.heap.push { cls := .type "list", data := .seq ([] : List Value).toArray } } := ⟨_, rfl⟩
  obtain ⟨H3, eH⟩ : ∃ H3 : Hp, H3 = upd H2 D (.lst []) := ⟨_, rfl⟩
  obtain ⟨W, ⟨m0, w0⟩, turn⟩ := q D (I2.hok.fresh (Nat.le_of_eq hD))
  rw [← eH] at w0
  have k23 : ∀ b o, s2.heap.get? b = some o → s3.heap.get? b = some o := fun b o z => by
    rw [e3]
    exact Heap.get?_push_of_some _ z
  have z23 : s3.heap.objs.size = s2.heap.objs.size + 1 := by rw [e3]; exact Heap.size_push ..
  have I3 : Inv X pins σ H3 s3 := by
    rw [e3, eH]
    refine I2.laid (t' := s2.toks) (fun b o z => Heap.get?_push_of_some _ z) (Nat.le_of_eq hD) ⟨Nat.zero_le _, [], 0, .nil, ?_⟩
    rw [← hD]
    exact Heap.get?_push_size _ rfl
  have f3 : ∀ b ∈ fp, FpOk X pins H3 b ∧ b < s3.heap.objs.size := fun b hb => by
    obtain ⟨o, z, _⟩ := T.obj _ _ st2 b hb
    have lt := Heap.lt_size z
    refine ⟨⟨?_, (f2 b hb).2⟩, by rw [z23]; exact Nat.lt_succ_of_lt lt⟩
    rw [eH, upd_ne (by rw [← hD]; exact Nat.ne_of_lt lt)]
    exact (f2 b hb).1
  obtain ⟨ce, ece⟩ : ∃ ce : Env, ce = compEnvC scope (cellsFrom (s3.heap.objs.size + 1) scope.names (cloFrom X.env.cells scope.names [])) s3.heap.objs.size X.env := ⟨_, rfl⟩
  obtain ⟨s4, e4⟩ : ∃ s4 : Shared, s4 = { s3 with heap := pushCells (s3.heap.push { cls := .type "dict", data := .dict #[] }) scope.names } := ⟨_, rfl⟩
  have k34 : ∀ b o, s3.heap.get? b = some o → s4.heap.get? b = some o := fun b o z => by
    rw [e4]
    exact pushCells_keeps _ _ _ _ (Heap.get?_push_of_some _ z)
  have cL : ce.locals = s3.heap.objs.size := by rw [ece]; rfl
  have I4 : Inv (hotBlk X s3 H3 scope ce fp) [] (wipe σ (own.map (·.2))) H3 s4 := by
    refine hotBlk_inv I3 ?_ k34 (fun b z _ => z) (Nat.le_of_eq cL.symm)
    rw [ece, e4]
    exact block_start I3 ok hN f3
  have pg : PG (hotBlk X s3 H3 scope ce fp) tg g := by rw [ece]; exact hg _ _ _ _ _
  have pe : PE (hotBlk X s3 H3 scope ce fp) elt te := by rw [ece]; exact he _ _ _ _ _
  have st4 : tn 0 s4.heap := T.keep _ _ _ st2 fun b _ o z => k34 _ _ (k23 _ _ z)
  have fpb : ∀ {τ : L2.St} {H' : Hp} {s' : Shared}, Inv (hotBlk X s3 H3 scope ce fp) [] τ H' s' → (∀ b ∈ fp, H' b = none) → ∀ b ∈ fp, FpOk (hotBlk X s3 H3 scope ce fp) [] H' b := fun {τ H' s'} I' hn b hb =>
    ⟨hn b hb, (I'.ok.exf b hb).1, I'.ok.exfs b hb, .inl hb, fun x c z => (I'.ok.exf b hb).2 x c z, fun p hp => (f3 b hb).1.2.2.2.2.2 p (List.mem_append_left _ (by simpa using hp))⟩
  have hot4 : HotC (hotBlk X s3 H3 scope ce fp) := hc
  show codeAny _ _ (.compStart (.ListComp elt [⟨tg, iter, [], 0⟩] scope pos) 0 (.ref it) (.ref s2.heap.objs.size) _) _ _
  rw [← e3, ← e4, hD]
  show codeAny _ _ (.compStart _ 0 _ _ (compEnvC scope (cellsFrom (s3.heap.objs.size + 1) scope.names (cloFrom X.env.cells scope.names [])) s3.heap.objs.size X.env)) (compPost _ _ _ none _ _ s3.heap.objs.size) _
  rw [← ece, ← cL]
  have loop : codeAny (model X.prog X.w) X.A (.compLoop (.ListComp elt [⟨tg, iter, [], 0⟩] scope pos) 0 (.ref it) (.ref D) ce) (compPost (model X.prog X.w) X.A X.xe none (EP X pins σ Q) (.ref D) ce.locals) s4 := by
    refine compLoop_any (fun n s' => ∃ i H', Inv (hotBlk X s3 H3 scope ce fp) [] (wipe σ (own.map (·.2))) H' s' ∧ tn i s'.heap ∧ (∀ b ∈ fp, H' b = none) ∧ W i n H') ?_ m0 ⟨0, H3, I4, st4, fun b hb => (f3 b hb).1.1, w0⟩
    rintro n s5 ⟨i, H5, I5, st5, n5, w5⟩
    rcases turn i n H5 w5 with ⟨stop, qq⟩ | ⟨go, Nx, hNx, step⟩
    · refine thnF (T.done (hotBlk X s3 H3 scope ce fp) rfl rfl rfl hot4 i [] s5 _ H5 (fun _ _ => False) I5 (fpb I5 n5) st5 stop) fun r s6 ⟨hr, I6⟩ => ?_
      subst hr
      have I7 : Inv X pins σ H5 s6 := I3.call' (ch := fp) I6.os I6.base I6.hok I6.bare fun b hb => ⟨(f3 b hb).1.2.2.2.1, (f3 b hb).1.2.1, (f3 b hb).1.2.2.2.2.1, (f3 b hb).1.2.2.2.2.2⟩
      obtain ⟨m, hn, _⟩ := I6.loc
      have fr : FpOk X pins H5 ce.locals := I3.fpOk (Nat.le_of_eq cL.symm) I6.free
      refine ⟨m, hn, fun h'' sb => ?_⟩
      exact ⟨.ref D, H5, I7.turned (t' := s6.toks) (fun b o hb z => (sb.2 b hb).trans z) fr.1 fr.2.1 fr.2.2.2.1 fr.2.2.2.2.1 fr.2.2.2.2.2, rfl, qq⟩
    · refine thnF (T.item (hotBlk X s3 H3 scope ce fp) rfl rfl rfl hot4 i [] s5 _ H5 (fun _ _ => False) I5 (fpb I5 n5) st5 go) fun r s6 ⟨u, hr, h6⟩ => ?_
      subst hr
      refine thnF h6 fun _ s7 ⟨x, H7, I7, r7, y7, st7, n7⟩ => ?_
      refine thnF (pg.run _ s7 _ H7 x u _ (I7.pinned (fpb I7 n7) (T.obj _ _ st7)) r7 (step x H7 y7)) fun _ s8 ⟨σ8, H8, I8, hw8, q8⟩ => ?_
      refine thnF ((pts_nil (X := hotBlk X s3 H3 scope ce fp)).run _ s8 σ8 H8 (fun b H' => b = true ∧ te σ8 H' fun y H4 => ∃ acc, H4 D = some (.lst acc) ∧ acc.length < sizeLine ∧ Nx (upd H4 D (.lst (acc ++ [y])))) I8 ⟨rfl, q8⟩) fun b s8' ⟨H8', I8', hb, q8'⟩ => ?_
      subst hb
      rw [if_pos rfl]
      refine thnF (pe.run _ s8' σ8 H8' _ I8' q8') fun z s9 ⟨yv, H9, I9, r9, acc, hD9, hz9, nx⟩ => ?_
      refine app_ok (X := hotBlk X s3 H3 scope ce fp) I9 hD9 hz9 r9 fun s10 I10 => ?_
      obtain ⟨m', hm, w'⟩ := hNx _ nx
      have back : ∀ b ∈ fp, ∀ o, s7.heap.get? b = some o → s10.heap.get? b = some o ∧ _ := fun b hb o e =>
        let z := I10.pin (b, o) (List.mem_append_right _ (List.mem_append_right _ (mem_pinsAt hb e)))
        (⟨z.1, z.2.1⟩ : s10.heap.get? b = some o ∧ upd H9 D (.lst (acc ++ [yv])) b = none)
      refine ⟨m', hm, i + 1, _, (I10.unpinned (pins := [])).weak (by rw [← hw8, wipe_length]) (fun j v e => ?_), T.keep _ _ _ st7 fun b hb o e => (back b hb o e).1, fun b hb => ?_, w'⟩
      · rw [← hw8] at e
        exact (wipe_some e).1
      · obtain ⟨o, e, _⟩ := T.obj _ _ st7 b hb
        exact (back b hb o e).2
  exact codeAny_compStart_list loop (T.self X.A 0 _ _ _ st4 loop)
end
/-! ### defs that take the handled error -/
/-- the def f keeps spx, told of the handled error: its address, class and dict -/
structure FnP (P : Program) (w : World) (K : PySem.W.Frag) (mg : Str → Option Value) (base : Heap) (k : Nat) (f : Addr) (fd : FuncData) (ps : List Str) (spx : Addr → Value → Option Addr → Sp) : Prop where
  len : ∀ a cls d vs H Q E, spx a cls d vs H Q E → vs.length = ps.length
  run : ∀ (A : Around) (outer : List Env) (s : Shared) (H : Hp) (args : Args) (us : List Value) (vs : List V) (Q : VK) (p : Addr × Obj) (cls : Value) (d : Option Addr), RoomH k A → Hot1 A p → Zc cls d p.2 → PinOk outer H s p → Env0 P w K mg base A outer s H → BindsTo s fd args (ps.zip us) → Vals vs us → spx p.1 cls d vs H Q E0 →
    codeAny (model P w) A (.call (.ref f) args) (CR CX0 outer P w H s Q E0) s
theorem fnP_of {P : Program} {w : World} {K : PySem.W.Frag} {mg : Str → Option Value} {base : Heap} {k : Nat} {f : Addr} {x qual : Str} {st : Stmt} {fd : FuncData} {N ps : List Str} {spx : Addr → Value → Option Addr → Sp} (F : Fun K x qual st f fd) (S : FnScope N ps (defScope st))
    (len : ∀ a cls d vs H Q E, spx a cls d vs H Q E → vs.length = ps.length)
    (hbody : ∀ (cdv : Value) (A : Around) (outer : List Env) (s : Shared) (H : Hp) (vs : List V) (Q : VK) (p : Addr × Obj) (cls : Value) (d : Option Addr), Hot1 A p → Zc cls d p.2 → RoomH k (A.deeper (envOfC qual (defScope st) s.heap.objs.size f cdv)) → spx p.1 cls d vs H Q E0 →
      ∃ t, PSs (cxH CX0 P w K mg base N qual (defScope st) f cdv A outer s H E0 p) (defBody st) t ∧ t { nx := fun _ H' => Q .non H', rt := Q } (L2.start N vs) H) :
    FnP P w K mg base (k + 1) f fd ps spx := by
  obtain ⟨oc, od, kV, doc, pm, an, cdv, ct, osl, rfl, lk, hcd⟩ := F.ex
  refine ⟨len, fun A outer s H args us vs Q p cls d hr hot hz hpin e0 hb r hsp => ?_⟩
  have stay : ∀ b o, base.get? b = some o → s.heap.get? b = some o := fun b o z => (e0.bs b o z).1
  have KX := e0.mod.kin.keeps stay
  refine codeAny_call_function hr.depth (KX _ _ lk) rfl S.co S.gen rfl (PySem.W.codeRec_of KX hcd) (hb _ _ _ _ ?_)
  refine wpAny_newFunctionEnv_cells S.kind (fun y hy => (S.par y.1 (List.of_mem_zip hy).1).elim .inl fun z => .inr ⟨z, PySem.W.cellsFrom_some _ _ _ (.inl z)⟩) fun env he s1 y => ?_
  subst he
  refine ⟨(e0.mod.nolimit.keeps stay).keeps y.toInCall.keep, codeAny_func ?_⟩
  obtain ⟨t, ht, hq⟩ := hbody cdv A outer s H vs Q p cls d hot hz (hr.deeper _) hsp
  refine wpAny_mono (ht.run [] s1 (L2.start N vs) H _ (inv_startH S hpin e0 (len _ _ _ _ _ _ _ hsp) r y) hq) (fun fl s' hs => ?_) fun e s' hs => hs
  cases fl with
  | ret u =>
    obtain ⟨v, σ', H', J, rv, z⟩ := hs
    exact ⟨v, H', J.os, J.bare, J.base, J.hok, rv, z⟩
  | next =>
    obtain ⟨σ', H', J, z⟩ := hs
    exact ⟨.non, H', J.os, J.bare, J.base, J.hok, rfl, z⟩
  | brk => exact hs.elim fun _ z => z.elim fun _ z => z.2.elim
  | cont => exact hs.elim fun _ z => z.elim fun _ z => z.2.elim
section
variable {X : Cx}
theorem call_isPin {p : Addr × Obj} {D : Addr} (C : ExcC X.K D) (hp : p ∈ X.pn) (hz : Zc (.ref D) none p.2) (hf : ∃ vs, p.2.data = .fields vs) : CallR X (.builtin "isinstance") (rIsE X.K D p.1) := by
  intro pins s σ H xs us Q I r h
  obtain ⟨c, cv, b, rfl, hcv, e, q⟩ := h
  obtain ⟨u1, u2, rfl, r1, r2⟩ := vals2 r
  obtain rfl : u1 = Value.ref p.1 := r1
  obtain rfl := hcv _ r2
  obtain ⟨hget, _⟩ := I.pin p (List.mem_append_left _ hp)
  obtain ⟨vs, hv⟩ := hf
  obtain ⟨pa, oc, od, oda, osl⟩ := p
  obtain ⟨h1, h2⟩ := hz
  dsimp only at h1 h2 hv
  subst h1 h2 hv
  exact PySem.W.kia_one (PySem.W.handS_kitx_exc C.hg C.hk C.hs C.hd C.ha C.hn C.ht C.hm) I.kIn (⟨hget, rfl, rfl, trivial⟩ : PySem.W.InstAt s.heap pa _ D none) e (fun z => nomatch z) fun tk => ⟨.bl b, H, I.kept (t' := tk) fun _ _ z => z, rfl, q⟩
/-- f(e, ..) within the suite of the error at p -/
def tCallP (spx : Addr → Value → Option Addr → Sp) (a : Addr) (cls : Value) (d : Option Addr) (t : TA) : TE := fun σ H Q => t σ H fun vs H1 => spx a cls d vs H1 Q E0
theorem pe_callP {k : Nat} {f : Addr} {fd : FuncData} {ps : List Str} {spx : Addr → Value → Option Addr → Sp} {x : Str} {q pos : Pos} {e : Expr} {es : List Expr} {t : TA} {p : Addr × Obj} {cls : Value} {d : Option Addr} (F : FnP X.prog X.w X.K X.mg X.base k f fd ps spx) (hr : RoomH k X.A) (hp : p ∈ X.pn) (hot : Hot1 X.A p) (hz : Zc cls d p.2)
    (hg : Gl X x) (hm : X.mg x = some (.ref f)) (hk : PySem.W.keepIn X.K (.ref f) = true) (hb : Binds X.K fd ps []) (ha : PA X (e :: es) t)
    (hdb : (x == ("__debug__" : Str)) = false := by decide) (he : starEach (e :: es) X.env = (false, eval e X.env) :: starEach es X.env := by rfl) (hpl : (backTo pos (starEach es X.env)).any (·.1) = false := by rfl) :
    PE X (.Call (.Name x q) (e :: es) [] pos) (tCallP spx p.1 cls d t) := by
  refine ⟨fun pins s σ H Q I h => ?_⟩
  refine wpAny_Call_Name_kw (ld_glob I hg hm ?_ hdb)
  refine PySem.W.callWith_K (h₀ := X.base) I.ok.mod.kin hk (thn (ha.run pos pins s σ H _ I h) fun us s1 ⟨vs, H1, I1, r, h1⟩ => ⟨I1.kIn, ?_⟩) he hpl
  have hl : us.length = ps.length := by rw [← r.length]; exact F.len _ _ _ _ _ _ _ h1
  have b := hb s1 us I1.kIn (by rw [List.append_nil]; exact hl)
  rw [List.append_nil] at b
  have P1 := I1.pin p (List.mem_append_left _ hp)
  have hpin : PinOk X.stack H1 s1 p := ⟨P1.1, P1.2.1, fun hm => (List.mem_cons.mp (I1.stkSub p.1 hm)).elim P1.2.2.1 P1.2.2.2.1, P1.2.2.2.2⟩
  refine wpAny_call (codeAny_mono (F.run X.A X.stack s1 H1 ⟨us, []⟩ us vs Q p cls d hr hot hz hpin I1.env0 b r h1) fun r s' hq => ?_)
  cases r with
  | error e => exact False.elim hq
  | ok fl =>
    cases fl with
    | ret u => exact I1.after hq
    | next => exact False.elim hq
    | brk => exact False.elim hq
    | cont => exact False.elim hq
end
theorem pe_callE {X : Cx} {k : Nat} {f : Addr} {fd : FuncData} {ps : List Str} {spx : Addr → Value → Option Addr → Sp} {x : Str} {q pos : Pos} {e : Expr} {es : List Expr} {t : TA} {a : Addr} {oe : Obj} {cls : Value} {d : Option Addr} (F : FnP X.prog X.w X.K X.mg X.base k f fd ps spx) (hr : RoomH k X.A) (hp : (a, oe) ∈ X.pn) (hot : Hot1 X.A (a, oe)) (hz : Zc cls d oe)
    (hg : Gl X x) (hm : X.mg x = some (.ref f)) (hk : PySem.W.keepIn X.K (.ref f) = true) (hb : Binds X.K fd ps []) (ha : PA X (e :: es) t)
    (hdb : (x == ("__debug__" : Str)) = false := by decide) (he : starEach (e :: es) X.env = (false, eval e X.env) :: starEach es X.env := by rfl) (hpl : (backTo pos (starEach es X.env)).any (·.1) = false := by rfl) :
    PE X (.Call (.Name x q) (e :: es) [] pos) (tCallP spx a cls d t) := pe_callP (p := (a, oe)) F hr hp hot hz hg hm hk hb ha hdb he hpl
theorem roomH_mark {j k : Nat} {A : Around} {v : Option Value} (r : Room k A) (h : j ≤ k) : RoomH j (A.mark v) := (roomH_of (r.mono h) : RoomH j A).rec fun d u => ⟨d, u⟩
theorem _root_.L2H.RoomH.units {k : Nat} {A : Around} (r : RoomH k A) : A.units + 64 < cLine := by
  have := r.un
  omega
theorem takes0N {X : Cx} : L2N.Takes X (fun _ _ _ _ => False) := fun _ _ x => by
  obtain ⟨_, _, _, _, _, _, _, _, _, _, _, _, _, _, _, _, z⟩ := x
  exact z.elim
theorem okXN {P : Program} {w : World} {K : PySem.W.Frag} {mg : Str → Option Value} {base : Heap} {x qual : Str} {st : Stmt} {f : Addr} {fd : FuncData} {N ps : List Str} {k : Nat} {sp : Sp} (F : Fun K x qual st f fd) (S : FnScope N ps (defScope st)) (len : ∀ vs H Q E, sp vs H Q E → vs.length = ps.length)
    (hbody : ∀ (cdv : Value) (A : Around) (outer : List Env) (s : Shared) (H : Hp) (vs : List V) (Q : VK) (E : XK), Room k (A.deeper (envOfC qual (defScope st) s.heap.objs.size f cdv)) → sp vs H Q E →
      ∃ t, PSs (cxOf (L2N.CX P w) P w K mg base N qual (defScope st) f cdv A outer s H E) (defBody st) t ∧ t { nx := fun _ H' => Q .non H', rt := Q } (L2.start N vs) H) : FnOk P w K mg base (L2N.CX P w) (k + 1) f fd ps sp := by
  obtain ⟨oc, od, kV, doc, pm, an, cdv, ct, osl, rfl, lk, hcd⟩ := F.ex
  exact fn_of lk hcd S len fun A outer s H vs Q E hr hsp => hbody cdv A outer s H vs Q E hr hsp
theorem kit_own {K : PySem.W.Frag} {D C : Addr} {b : Bool} (h0 : PySem.W.subIn K (.ref D) (.ref D) = some true) (hi : PySem.W.isClsIn K C = true) (ht : PySem.W.typeIn K (.ref C) = some (.type "type")) (hs : PySem.W.subIn K (.ref D) (.ref C) = some b) : PySem.W.kitOne K (.ref D) (.ref C) = some b := by
  unfold PySem.W.isClsIn at hi
  unfold PySem.W.kitOne
  by_cases e : D = C
  · subst e
    rw [h0] at hs
    rw [if_pos (beq_self_eq_true _), hs]
  · rw [if_neg (by simp [e])]
    simp [PySem.W.kitCls, hi, ht, hs]
theorem kit_ve {K : PySem.W.Frag} {D : Addr} (h : PySem.W.subIn K (.ref D) (.type "ValueError") = some true) : PySem.W.kitOne K (.ref D) (.type "ValueError") = some true := by
  unfold PySem.W.kitOne
  rw [if_neg (by simp)]
  unfold PySem.W.kitCls
  show (if PySem.W.kitMeta "ValueError" = true then _ else _) = _
  rw [if_pos (by decide +kernel)]
  exact h
theorem exm_sub {K : PySem.W.Frag} {D C : Addr} (h1 : PySem.W.subIn K (.ref C) (.type "BaseException") = some true) (hi : PySem.W.isClsIn K C = true) (ht : PySem.W.typeIn K (.ref C) = some (.type "type")) (hs : PySem.W.subIn K (.ref D) (.ref C) = some true) : PySem.W.exmOne K (.ref D) (.ref C) = some true := by
  unfold PySem.W.isClsIn at hi
  simp [PySem.W.exmOne, PySem.W.kitCls, h1, hi, ht, hs]
end Fp

set_option Elab.async false
set_option linter.all false
set_option maxRecDepth 100000
set_option maxHeartbeats 4000000
/-! The first place of a sign in a text; the runs of a row. -/
namespace Fp
open PySem L2 PyProof.Rows
def oth (c : Nat) : Nat := if c = 46 then 35 else 46
theorem oth_46 : oth 46 = 35 := rfl
theorem oth_35 : oth 35 = 46 := rfl
theorem oth_cell (c : Nat) : Cell (oth c) := by
  unfold oth
  split
  · exact .inr rfl
  · exact .inl rfl
theorem oth_ne {c : Nat} (h : Cell c) : oth c ≠ c := by
  rcases h with rfl | rfl <;> decide
theorem oth_oth {c : Nat} (h : Cell c) : oth (oth c) = c := by
  rcases h with rfl | rfl <;> rfl
theorem cell_ne {c x : Nat} (hc : Cell c) (hx : Cell x) (n : x ≠ oth c) : x = c := by
  rcases hc with rfl | rfl <;> rcases hx with rfl | rfl <;> first | rfl | exact absurd rfl n
/-- the first place of c in l, from s on; l's end where there is none -/
def fp (l : List Nat) (c s : Nat) : Nat := if s ≤ l.length then s + ((l.drop s).takeWhile (fun x => decide (x ≠ c))).length else l.length
theorem tw_spec (c : Nat) : ∀ l : List Nat, (∀ v, v < (l.takeWhile (fun x => decide (x ≠ c))).length → l[v]? ≠ some c) ∧ (l.takeWhile (fun x => decide (x ≠ c))).length ≤ l.length ∧ ((l.takeWhile (fun x => decide (x ≠ c))).length < l.length → l[(l.takeWhile (fun x => decide (x ≠ c))).length]? = some c)
  | [] => ⟨fun v h => by simp at h, by simp, fun h => by simp at h⟩
  | x :: r => by
    obtain ⟨h1, h2, h3⟩ := tw_spec c r
    by_cases e : x = c
    · subst e
      have z : (x :: r).takeWhile (fun y => decide (y ≠ x)) = [] := by
        rw [List.takeWhile_cons]
        simp
      rw [z]
      exact ⟨fun v h => by simp at h, by simp, fun _ => rfl⟩
    · have z : (x :: r).takeWhile (fun y => decide (y ≠ c)) = x :: r.takeWhile (fun y => decide (y ≠ c)) := by
        rw [List.takeWhile_cons]
        simp [e]
      rw [z]
      refine ⟨fun v h => ?_, ?_, fun h => ?_⟩
      · cases v with
        | zero => exact fun q => e (Option.some.inj q)
        | succ v =>
          have h' : v < (r.takeWhile (fun y => decide (y ≠ c))).length := by
            rw [List.length_cons] at h
            omega
          exact h1 v h'
      · rw [List.length_cons, List.length_cons]
        omega
      · rw [List.length_cons, List.length_cons] at h
        rw [List.length_cons, List.getElem?_cons_succ]
        exact h3 (by omega)
theorem fp_spec {l : List Nat} {c s : Nat} (h : s ≤ l.length) : s ≤ fp l c s ∧ fp l c s ≤ l.length ∧ (∀ v, s ≤ v → v < fp l c s → l[v]? ≠ some c) ∧ (fp l c s < l.length → l[fp l c s]? = some c) := by
  obtain ⟨h1, h2, h3⟩ := tw_spec c (l.drop s)
  unfold fp
  rw [if_pos h]
  rw [List.length_drop] at h2 h3
  refine ⟨by omega, by omega, fun v a b => ?_, fun b => ?_⟩
  · have := h1 (v - s) (by omega)
    rw [List.getElem?_drop, show s + (v - s) = v by omega] at this
    exact this
  · have := h3 (by omega)
    rw [List.getElem?_drop] at this
    exact this
theorem fp_uniq {l : List Nat} {c s k : Nat} (h : s ≤ l.length) (h1 : s ≤ k) (h2 : k ≤ l.length) (h3 : ∀ v, s ≤ v → v < k → l[v]? ≠ some c) (h4 : k < l.length → l[k]? = some c) : fp l c s = k := by
  obtain ⟨a1, a2, a3, a4⟩ := fp_spec (c := c) h
  by_cases e1 : fp l c s < k
  · exact absurd (a4 (by omega)) (h3 _ a1 e1)
  · by_cases e2 : k < fp l c s
    · exact absurd (h4 (by omega)) (a3 _ h1 e2)
    · omega
theorem fp_le (l : List Nat) (c s : Nat) : fp l c s ≤ l.length := by
  by_cases h : s ≤ l.length
  · exact (fp_spec h).2.1
  · unfold fp
    rw [if_neg h]
    exact Nat.le_refl _
theorem sOf_getD (l : List Nat) (v : Nat) : (sOf l).cps.getD v 0 = (l[v]?).getD 0 := by
  show (l.toArray).getD v 0 = _
  simp [Array.getD]
  by_cases h : v < l.length
  · rw [dif_pos h, List.getElem?_eq_getElem h]
    rfl
  · rw [dif_neg h, List.getElem?_eq_none (by omega)]
    rfl
/-- find, and what first_place makes of it -/
theorem find3_fp (l : List Nat) (c s : Nat) : (Txt.find3 (sOf l) (sOf [c]) (s : Int) < 0 ∧ fp l c s = l.length) ∨ (Txt.find3 (sOf l) (sOf [c]) (s : Int) = (fp l c s : Int)) := by
  have e : PySem.fromIndex (sOf l).length (s : Int) = s := by
    unfold PySem.fromIndex
    rw [if_neg (by omega)]
    omega
  rcases StrLaws.find3_spec (sOf l) c (s : Int) with ⟨h1, h2⟩ | ⟨k, h1, h2, h3, h4, h5⟩
  · left
    refine ⟨by rw [show sOf [c] = ⟨#[c]⟩ from rfl, h1]; decide, ?_⟩
    by_cases h : s ≤ l.length
    · refine fp_uniq h h (Nat.le_refl _) (fun v a b => ?_) (fun z => absurd z (Nat.lt_irrefl _))
      have := h2 v (by rw [e]; exact a) (by rw [sOf_len]; exact b)
      rw [sOf_getD, List.getElem?_eq_getElem b] at this
      rw [List.getElem?_eq_getElem b]
      exact fun q => this (Option.some.inj q)
    · unfold fp
      rw [if_neg h]
  · right
    rw [e] at h2 h5
    rw [sOf_len] at h3
    rw [show sOf [c] = ⟨#[c]⟩ from rfl, h1]
    congr 1
    symm
    refine fp_uniq (by omega) h2 (by omega) (fun v a b => ?_) (fun _ => ?_)
    · have := h5 v a b
      have b' : v < l.length := by omega
      rw [sOf_getD, List.getElem?_eq_getElem b'] at this
      rw [List.getElem?_eq_getElem b']
      exact fun q => this (Option.some.inj q)
    · rw [sOf_getD, List.getElem?_eq_getElem h3] at h4
      rw [List.getElem?_eq_getElem h3]
      exact congrArg some h4
/-- the runs: what is left, the colour, how many of it stand ahead -/
def runsFrom : List Nat → Nat → Nat → List Nat
  | [], _, k => [k]
  | x :: r, c, k => if x = oth c then k :: runsFrom r (oth c) 1 else runsFrom r c (k + 1)
def runsL (l : List Nat) : List Nat := runsFrom l 46 0
theorem runsFrom_ne (l : List Nat) (c k : Nat) : runsFrom l c k ≠ [] := by
  induction l generalizing c k with
  | nil => exact fun h => by cases h
  | cons x r ih =>
    unfold runsFrom
    split
    · exact fun h => by cases h
    · exact ih c (k + 1)
theorem runsFrom_step (c : Nat) (hc : Cell c) : ∀ (l : List Nat) (k : Nat), runsFrom l c k = (k + (l.takeWhile (fun x => decide (x ≠ oth c))).length) :: (if l.drop (l.takeWhile (fun x => decide (x ≠ oth c))).length = [] then [] else runsFrom (l.drop (l.takeWhile (fun x => decide (x ≠ oth c))).length) (oth c) 0)
  | [], k => by simp [runsFrom]
  | x :: r, k => by
    by_cases e : x = oth c
    · have z : (x :: r).takeWhile (fun y => decide (y ≠ oth c)) = [] := by
        rw [List.takeWhile_cons]
        simp [e]
      rw [z]
      have n1 : oth c ≠ oth (oth c) := by
        rcases hc with rfl | rfl <;> decide
      rw [List.length_nil, List.drop_zero, if_neg (by simp)]
      conv => lhs; unfold runsFrom
      conv => rhs; rhs; unfold runsFrom
      rw [if_pos e, if_neg (by rw [e]; exact n1)]
      rfl
    · have z : (x :: r).takeWhile (fun y => decide (y ≠ oth c)) = x :: r.takeWhile (fun y => decide (y ≠ oth c)) := by
        rw [List.takeWhile_cons]
        simp [e]
      rw [z, List.length_cons, List.drop_succ_cons]
      conv => lhs; unfold runsFrom
      rw [if_neg e, runsFrom_step c hc r (k + 1)]
      congr 1
      omega
/-- a step of runs_of at a place -/
theorem runs_at {l : List Nat} {c p : Nat} (hc : Cell c) (hp : p ≤ l.length) : runsFrom (l.drop p) c 0 = (fp l (oth c) p - p) :: (if fp l (oth c) p = l.length then [] else runsFrom (l.drop (fp l (oth c) p)) (oth c) 0) := by
  rw [runsFrom_step c hc]
  have e : fp l (oth c) p = p + ((l.drop p).takeWhile (fun x => decide (x ≠ oth c))).length := by
    unfold fp
    rw [if_pos hp]
  have le := fp_le l (oth c) p
  rw [List.drop_drop, ← e]
  congr 1
  · omega
  · have q : l.drop (fp l (oth c) p) = [] ↔ fp l (oth c) p = l.length := by
      rw [List.drop_eq_nil_iff]
      omega
    by_cases h : fp l (oth c) p = l.length
    · rw [if_pos (q.mpr h), if_pos h]
    · rw [if_neg (fun z => h (q.mp z)), if_neg h]
/-- runs put together -/
def unr : List Nat → Nat → List Nat
  | [], _ => []
  | k :: r, c => List.replicate k c ++ unr r (oth c)
theorem unr_runs {l : List Nat} (h : Row l) {c : Nat} (hc : Cell c) (k : Nat) : unr (runsFrom l c k) c = List.replicate k c ++ l := by
  induction l generalizing c k with
  | nil =>
    show List.replicate k c ++ [] = _
    rfl
  | cons x r ih =>
    have hr : Row r := fun y hy => h y (List.mem_cons_of_mem _ hy)
    unfold runsFrom
    split
    · rename_i e
      show List.replicate k c ++ unr (runsFrom r (oth c) 1) (oth c) = _
      rw [ih hr (oth_cell c), e]
      rfl
    · rename_i e
      rw [ih hr hc, cell_ne hc (h x (List.mem_cons_self ..)) e, List.replicate_succ', List.append_assoc]
      rfl
theorem runs_pos {l : List Nat} {c k : Nat} (hc : Cell c) : ∀ x ∈ (runsFrom l c k).drop 1, 0 < x := by
  have main : ∀ (l : List Nat) (c k : Nat), 0 < k → ∀ x ∈ runsFrom l c k, 0 < x := by
    intro l
    induction l with
    | nil =>
      intro c k hk x hx
      rw [List.mem_singleton.mp hx]
      exact hk
    | cons y r ih =>
      intro c k hk x hx
      unfold runsFrom at hx
      split at hx
      · rcases List.mem_cons.mp hx with e | e
        · rw [e]
          exact hk
        · exact ih _ _ (by decide) x e
      · exact ih _ _ (by omega) x hx
  induction l generalizing c k with
  | nil =>
    intro x hx
    cases hx
  | cons y r ih =>
    intro x hx
    unfold runsFrom at hx
    split at hx
    · exact main _ _ _ (by decide) x hx
    · exact ih hc x hx
theorem unr_len : ∀ (rs : List Nat) (c : Nat), (unr rs c).length = rs.sum
  | [], _ => rfl
  | k :: r, c => by
    show (List.replicate k c ++ unr r (oth c)).length = _
    rw [List.length_append, List.length_replicate, unr_len r, List.sum_cons]
theorem runs_sum {l : List Nat} (h : Row l) : (runsL l).sum = l.length := by
  rw [← unr_len (runsL l) 46]
  unfold runsL
  rw [unr_runs h (.inl rfl)]
  rfl
theorem le_sum {xs : List Nat} {x : Nat} (h : x ∈ xs) : x ≤ xs.sum := by
  induction xs with
  | nil => cases h
  | cons y r ih =>
    rw [List.sum_cons]
    rcases List.mem_cons.mp h with e | e
    · omega
    · have := ih e
      omega
theorem pos_sum : ∀ xs : List Nat, (∀ x ∈ xs, 0 < x) → xs.length ≤ xs.sum
  | [], _ => Nat.le_refl _
  | y :: r, h => by
    have h1 := pos_sum r fun x hx => h x (List.mem_cons_of_mem _ hx)
    have h2 := h y (List.mem_cons_self ..)
    rw [List.sum_cons, List.length_cons]
    omega
theorem runs_len {l : List Nat} (h : Row l) : (runsL l).length ≤ l.length + 1 := by
  have h1 := runs_pos (l := l) (k := 0) (c := 46) (.inl rfl)
  have h2 := pos_sum _ h1
  have h3 := runs_sum h
  unfold runsL at h3 ⊢
  cases e : runsFrom l 46 0 with
  | nil => simp
  | cons y r =>
    rw [e] at h2 h3
    rw [List.sum_cons] at h3
    simp only [List.drop_succ_cons, List.drop_zero] at h2
    rw [List.length_cons]
    omega
/-- the colour of the i-th run -/
def colr (c : Nat) : Nat → Nat
  | 0 => c
  | i + 1 => oth (colr c i)
theorem colr_succ (c : Nat) : ∀ i, colr (oth c) i = oth (colr c i)
  | 0 => rfl
  | i + 1 => by
    show oth (colr (oth c) i) = oth (oth (colr c i))
    rw [colr_succ c i]
theorem colr_mod : ∀ i : Nat, colr 46 i = if i % 2 = 0 then 46 else 35
  | 0 => rfl
  | i + 1 => by
    show oth (colr 46 i) = _
    rw [colr_mod i]
    by_cases h : i % 2 = 0
    · rw [if_pos h, if_neg (by omega)]
      rfl
    · rw [if_neg h, if_pos (by omega)]
      rfl
theorem unr_more : ∀ (rs : List Nat) (c i x : Nat), rs[i]? = some x → unr (rs.take (i + 1)) c = unr (rs.take i) c ++ List.replicate x (colr c i)
  | [], _, _, _, h => by cases h
  | y :: r, c, 0, x, h => by
    have : y = x := Option.some.inj h
    subst this
    show List.replicate y c ++ unr (r.take 0) (oth c) = [] ++ List.replicate y c
    rw [List.take_zero]
    show List.replicate y c ++ [] = _
    rw [List.append_nil, List.nil_append]
  | y :: r, c, i + 1, x, h => by
    show List.replicate y c ++ unr (r.take (i + 1)) (oth c) = (List.replicate y c ++ unr (r.take i) (oth c)) ++ List.replicate x (oth (colr c i))
    rw [unr_more r (oth c) i x h, colr_succ, List.append_assoc]
end Fp

set_option Elab.async false
set_option linter.all false
set_option maxRecDepth 100000
set_option maxHeartbeats 4000000
/-! Texts of bits: slices, numbers written by twos, spoils. -/
namespace Fp
open PySem L2 PyProof.Rows
theorem cutS_upto (l : List Nat) (b : Nat) : cutS (sOf l) none (some (b : Int)) = sOf (l.take b) := by
  unfold cutS
  rw [HT.sIx_nat, sOf_len, sOf_list, HT.sIx_none]
  show sOf ((l.drop 0).take (min b l.length - 0)) = _
  rw [List.drop_zero, Nat.sub_zero]
  congr 1
  by_cases h : b ≤ l.length
  · rw [Nat.min_eq_left h]
  · rw [Nat.min_eq_right (by omega), List.take_length, List.take_of_length_le (by omega)]
theorem cutS_from (l : List Nat) (a : Nat) : cutS (sOf l) (some (a : Int)) none = sOf (l.drop a) := by
  unfold cutS
  rw [HT.sIx_nat, sOf_len, sOf_list, HT.sIx_none]
  congr 1
  by_cases h : a ≤ l.length
  · rw [Nat.min_eq_left h]
    have q : (l.drop a).length ≤ l.length - a := by
      rw [List.length_drop]
      exact Nat.le_refl _
    exact congrArg _ (List.take_of_length_le q)
  · rw [Nat.min_eq_right (by omega), Nat.sub_self, List.take_zero, List.drop_eq_nil_of_le (by omega)]
/-! ### known tests -/
theorem iteD1 {p A B : Prop} [Decidable p] (h : p) (a : A) : if decide p = true then A else B := by
  rw [decide_eq_true h]
  exact iteT a
theorem iteD0 {p A B : Prop} [Decidable p] (h : ¬ p) (b : B) : if decide p = true then A else B := by
  rw [decide_eq_false h]
  exact iteF b
theorem iteN0 {p A B : Prop} [Decidable p] (h : p) (b : B) : if (!decide p) = true then A else B := by
  rw [decide_eq_true h]
  exact iteF b
theorem iteN1 {p A B : Prop} [Decidable p] (h : ¬ p) (a : A) : if (!decide p) = true then A else B := by
  rw [decide_eq_false h]
  exact iteT a
theorem vint {i j : Int} : (V.int i = V.int j) ↔ i = j := ⟨fun h => V.int.inj h, fun h => by rw [h]⟩
theorem vstr {l m : List Nat} : (V.str (sOf l) = V.str (sOf m)) ↔ l = m := ⟨fun h => sOf_inj (V.str.inj h), fun h => by rw [h]⟩
theorem vstr1 {c d : Nat} : (V.str (sOf [c]) = V.str (sOf [d])) ↔ c = d := vstr.trans ⟨fun h => by simpa using h, fun h => by rw [h]⟩
def bitN (i : Int) : Nat := if i = 0 then 48 else 49
theorem bitN_bit (i : Int) : bitN i = 48 ∨ bitN i = 49 := by
  unfold bitN
  split
  · exact .inl rfl
  · exact .inr rfl
theorem bit_at {i : Int} (h0 : 0 ≤ i) (h1 : i < 2) : atI (Str.ofString "01").cps.toList i = some (bitN i) := by
  have : i = 0 ∨ i = 1 := by omega
  rcases this with rfl | rfl <;> rfl
theorem two_len' : (Str.ofString "01").length ≤ sizeLine := by decide
theorem sOf_at {l : List Nat} {i c : Nat} (h : l[i]? = some c) : atI (sOf l).cps.toList (i : Int) = some c := by
  rw [sOf_list]
  exact atI_nat h
--PURE
/-! ### bits -/
def Bts (l : List Nat) : Prop := ∀ c ∈ l, c = 48 ∨ c = 49
theorem Bts.app {l m : List Nat} (h : Bts l) (k : Bts m) : Bts (l ++ m) := fun c hc => by
  rcases List.mem_append.mp hc with e | e
  · exact h c e
  · exact k c e
theorem Bts.nil : Bts [] := fun _ h => nomatch h
theorem Bts.take {l : List Nat} (h : Bts l) (n : Nat) : Bts (l.take n) := fun c hc => h c (List.mem_of_mem_take hc)
theorem Bts.drop {l : List Nat} (h : Bts l) (n : Nat) : Bts (l.drop n) := fun c hc => h c (List.mem_of_mem_drop hc)
theorem Bts.one {c : Nat} (h : c = 48 ∨ c = 49) : Bts [c] := fun x hx => by
  rw [List.mem_singleton.mp hx]
  exact h
theorem Bts.rep {n c : Nat} (hc : c = 48 ∨ c = 49) : Bts (List.replicate n c) := fun x hx => by
  rw [(List.mem_replicate.mp hx).2]
  exact hc
theorem Bts.at {l : List Nat} (h : Bts l) {i c : Nat} (e : l[i]? = some c) : c = 48 ∨ c = 49 := h c (List.mem_of_getElem? e)
/-- a number by twos, m signs -/
def wrB (n m : Nat) : List Nat := (List.range m).map fun j => 48 + n / 2 ^ (m - 1 - j) % 2
theorem wrB_len (n m : Nat) : (wrB n m).length = m := by
  unfold wrB
  rw [List.length_map, List.length_range]
theorem wrB_bts (n m : Nat) : Bts (wrB n m) := fun c hc => by
  unfold wrB at hc
  obtain ⟨j, _, rfl⟩ := List.mem_map.mp hc
  omega
/-! ### spoils -/
inductive Spl where
  | turn (n : Nat)
  | lose (n : Nat)
  | put (n b : Nat)
def flipB (c : Nat) : Nat := if c = 49 then 48 else 49
def once (l : List Nat) : Spl → List Nat
  | .put n b => if n ≤ l.length then l.take n ++ b :: l.drop n else l
  | .turn n => if n < l.length then l.take n ++ flipB ((l[n]?).getD 0) :: l.drop (n + 1) else l
  | .lose n => if n < l.length then l.take n ++ l.drop (n + 1) else l
def spoilL (l : List Nat) (sps : List Spl) : List Nat := sps.foldl once l
def plc : Spl → Nat
  | .put n _ => n
  | .turn n => n
  | .lose n => n
/-- what the sign x at the place i becomes -/
def stepA (sp : Spl) (i : Nat) : List Nat := match sp with
  | .put n b => if i = n then [b] else []
  | _ => []
def stepB (sp : Spl) (i x : Nat) : List Nat := match sp with
  | .put _ _ => [x]
  | .turn n => if i = n then [flipB x] else [x]
  | .lose n => if i = n then [] else [x]
/-- place by place -/
def walkS (sp : Spl) : List Nat → Nat → List Nat
  | [], i => stepA sp i
  | x :: r, i => stepA sp i ++ stepB sp i x ++ walkS sp r (i + 1)
theorem walk_past (sp : Spl) : ∀ (l : List Nat) (i : Nat), plc sp < i → walkS sp l i = l
  | [], i, h => by
    cases sp with
    | put n b => show (if i = n then [b] else []) = []; rw [if_neg (by show ¬ i = n; have : n < i := h; omega)]
    | turn n => rfl
    | lose n => rfl
  | x :: r, i, h => by
    have ih := walk_past sp r (i + 1) (by omega)
    unfold walkS
    rw [ih]
    cases sp with
    | put n b =>
      have : n < i := h
      show (if i = n then [b] else []) ++ [x] ++ r = x :: r
      rw [if_neg (by omega)]
      rfl
    | turn n =>
      have : n < i := h
      show [] ++ (if i = n then [flipB x] else [x]) ++ r = x :: r
      rw [if_neg (by omega)]
      rfl
    | lose n =>
      have : n < i := h
      show [] ++ (if i = n then [] else [x]) ++ r = x :: r
      rw [if_neg (by omega)]
      rfl
def shift (sp : Spl) (i : Nat) : Spl := match sp with
  | .put n b => .put (n - i) b
  | .turn n => .turn (n - i)
  | .lose n => .lose (n - i)
theorem walk_once (sp : Spl) : ∀ (l : List Nat) (i : Nat), i ≤ plc sp → walkS sp l i = once l (shift sp i)
  | [], i, h => by
    cases sp with
    | put n b =>
      have : i ≤ n := h
      show (if i = n then [b] else []) = if n - i ≤ 0 then [].take (n - i) ++ b :: [].drop (n - i) else []
      by_cases e : i = n
      · rw [if_pos e, if_pos (by omega)]
        simp
      · rw [if_neg e, if_neg (by omega)]
    | turn n => rfl
    | lose n => rfl
  | x :: r, i, h => by
    unfold walkS
    by_cases e : i = plc sp
    · rw [walk_past sp r (i + 1) (by omega)]
      cases sp with
      | put n b =>
        have e : i = n := e
        subst e
        show (if i = i then [b] else []) ++ [x] ++ r = if i - i ≤ (x :: r).length then (x :: r).take (i - i) ++ b :: (x :: r).drop (i - i) else x :: r
        rw [if_pos rfl, Nat.sub_self, if_pos (Nat.zero_le _)]
        rfl
      | turn n =>
        have e : i = n := e
        subst e
        show [] ++ (if i = i then [flipB x] else [x]) ++ r = if i - i < (x :: r).length then (x :: r).take (i - i) ++ flipB (((x :: r)[i - i]?).getD 0) :: (x :: r).drop (i - i + 1) else x :: r
        rw [if_pos rfl, Nat.sub_self, if_pos (by rw [List.length_cons]; exact Nat.succ_pos _)]
        rfl
      | lose n =>
        have e : i = n := e
        subst e
        show [] ++ (if i = i then [] else [x]) ++ r = if i - i < (x :: r).length then (x :: r).take (i - i) ++ (x :: r).drop (i - i + 1) else x :: r
        rw [if_pos rfl, Nat.sub_self, if_pos (by rw [List.length_cons]; exact Nat.succ_pos _)]
        rfl
    · have lt : i + 1 ≤ plc sp := by omega
      rw [walk_once sp r (i + 1) lt]
      cases sp with
      | put n b =>
        have lt : i + 1 ≤ n := lt
        obtain ⟨k, rfl⟩ : ∃ k, n = i + 1 + k := ⟨n - (i + 1), by omega⟩
        show (if i = i + 1 + k then [b] else []) ++ [x] ++ (if i + 1 + k - (i + 1) ≤ r.length then r.take (i + 1 + k - (i + 1)) ++ b :: r.drop (i + 1 + k - (i + 1)) else r) = if i + 1 + k - i ≤ (x :: r).length then (x :: r).take (i + 1 + k - i) ++ b :: (x :: r).drop (i + 1 + k - i) else x :: r
        rw [if_neg (by omega), show i + 1 + k - (i + 1) = k by omega, show i + 1 + k - i = k + 1 by omega, List.length_cons]
        by_cases q : k ≤ r.length
        · rw [if_pos q, if_pos (by omega)]
          rfl
        · rw [if_neg q, if_neg (by omega)]
          rfl
      | turn n =>
        have lt : i + 1 ≤ n := lt
        obtain ⟨k, rfl⟩ : ∃ k, n = i + 1 + k := ⟨n - (i + 1), by omega⟩
        show [] ++ (if i = i + 1 + k then [flipB x] else [x]) ++ (if i + 1 + k - (i + 1) < r.length then r.take (i + 1 + k - (i + 1)) ++ flipB ((r[i + 1 + k - (i + 1)]?).getD 0) :: r.drop (i + 1 + k - (i + 1) + 1) else r) = if i + 1 + k - i < (x :: r).length then (x :: r).take (i + 1 + k - i) ++ flipB (((x :: r)[i + 1 + k - i]?).getD 0) :: (x :: r).drop (i + 1 + k - i + 1) else x :: r
        rw [if_neg (by omega), show i + 1 + k - (i + 1) = k by omega, show i + 1 + k - i = k + 1 by omega, List.length_cons]
        by_cases q : k < r.length
        · rw [if_pos q, if_pos (by omega)]
          rfl
        · rw [if_neg q, if_neg (by omega)]
          rfl
      | lose n =>
        have lt : i + 1 ≤ n := lt
        obtain ⟨k, rfl⟩ : ∃ k, n = i + 1 + k := ⟨n - (i + 1), by omega⟩
        show [] ++ (if i = i + 1 + k then [] else [x]) ++ (if i + 1 + k - (i + 1) < r.length then r.take (i + 1 + k - (i + 1)) ++ r.drop (i + 1 + k - (i + 1) + 1) else r) = if i + 1 + k - i < (x :: r).length then (x :: r).take (i + 1 + k - i) ++ (x :: r).drop (i + 1 + k - i + 1) else x :: r
        rw [if_neg (by omega), show i + 1 + k - (i + 1) = k by omega, show i + 1 + k - i = k + 1 by omega, List.length_cons]
        by_cases q : k < r.length
        · rw [if_pos q, if_pos (by omega)]
          rfl
        · rw [if_neg q, if_neg (by omega)]
          rfl
theorem walk_is (sp : Spl) (l : List Nat) : walkS sp l 0 = once l sp := by
  rw [walk_once sp l 0 (Nat.zero_le _)]
  cases sp <;> rfl
theorem once_len (l : List Nat) (sp : Spl) : (once l sp).length ≤ l.length + 1 := by
  cases sp with
  | put n b =>
    show (if n ≤ l.length then l.take n ++ b :: l.drop n else l).length ≤ _
    split
    · rw [List.length_append, List.length_cons, List.length_take, List.length_drop]
      omega
    · omega
  | turn n =>
    show (if n < l.length then l.take n ++ flipB ((l[n]?).getD 0) :: l.drop (n + 1) else l).length ≤ _
    split
    · rw [List.length_append, List.length_cons, List.length_take, List.length_drop]
      omega
    · omega
  | lose n =>
    show (if n < l.length then l.take n ++ l.drop (n + 1) else l).length ≤ _
    split
    · rw [List.length_append, List.length_take, List.length_drop]
      omega
    · omega
def BitS : Spl → Prop
  | .put _ b => b = 48 ∨ b = 49
  | _ => True
theorem flipB_bit (c : Nat) : flipB c = 48 ∨ flipB c = 49 := by
  unfold flipB
  split
  · exact .inl rfl
  · exact .inr rfl
theorem once_bts {l : List Nat} {sp : Spl} (h : Bts l) (hs : BitS sp) : Bts (once l sp) := by
  cases sp with
  | put n b =>
    show Bts (if n ≤ l.length then l.take n ++ b :: l.drop n else l)
    split
    · exact (h.take n).app (fun c hc => by
        rcases List.mem_cons.mp hc with e | e
        · rw [e]; exact hs
        · exact h.drop n c e)
    · exact h
  | turn n =>
    show Bts (if n < l.length then l.take n ++ flipB ((l[n]?).getD 0) :: l.drop (n + 1) else l)
    split
    · exact (h.take n).app (fun c hc => by
        rcases List.mem_cons.mp hc with e | e
        · rw [e]; exact flipB_bit _
        · exact h.drop _ c e)
    · exact h
  | lose n =>
    show Bts (if n < l.length then l.take n ++ l.drop (n + 1) else l)
    split
    · exact (h.take n).app (h.drop _)
    · exact h
end Fp

set_option Elab.async false
set_option linter.all false
set_option maxRecDepth 100000
set_option maxHeartbeats 4000000
/-! The laws' bags of four numbers; texts times an int. -/
namespace Fp
open PySem L2 PyProof.Rows
def Bag4 (H : Hp) (b : Addr) : Prop := ∃ g s p k : Int, H b = some (.lst [.int g, .int s, .int p, .int k]) ∧ 0 ≤ g ∧ 0 ≤ s ∧ s < 2147483648 ∧ 0 < p ∧ p < 2147483648
def Bx4 (b : Addr) (H H' : Hp) : Prop := Bag4 H' b ∧ ∀ a o, a ≠ b → H a = some o → H' a = some o
theorem Bx4.refl {b : Addr} {H : Hp} (h : Bag4 H b) : Bx4 b H H := ⟨h, fun _ _ _ e => e⟩
theorem Bx4.trans {b : Addr} {H H1 H2 : Hp} (x : Bx4 b H H1) (y : Bx4 b H1 H2) : Bx4 b H H2 := ⟨y.1, fun a o n e => y.2 a o n (x.2 a o n e)⟩
theorem Bx4.drawn {b : Addr} {H : Hp} {g s p k : Int} (g0 : 0 ≤ g) (s0 : 0 ≤ s) (s1 : s < 2147483648) (p0 : 0 < p) (p1 : p < 2147483648) : Bx4 b H (upd H b (.lst [.int g, .int s, .int p, .int k])) := ⟨⟨g, s, p, k, upd_same, g0, s0, s1, p0, p1⟩, fun a o n e => by
  rw [upd_ne n]
  exact e⟩
theorem Bx4.same {b : Addr} {H H1 H2 : Hp} (x : Bx4 b H H1) (y : Same H1 H2) : Bx4 b H H2 := by
  obtain ⟨⟨g, s, p, k, h, r⟩, m⟩ := x
  exact ⟨⟨g, s, p, k, y _ _ h, r⟩, fun a o n e => y _ _ (m a o n e)⟩
theorem Bx4.back {b : Addr} {H0 H H' : Hp} (x : Bx4 b H H') (y : Same H0 H) (n : H0 b = none) : Same H0 H' := fun a o e => x.2 a o (ne_of_none e n) (y a o e)
theorem Bx4.mut {b p : Addr} {H H' : Hp} {o : HO} (x : Bx4 b H H') (hp : H p = none) (n : p ≠ b) : Bx4 b H (upd H' p o) := by
  obtain ⟨⟨g, s, r, k, h, c⟩, m⟩ := x
  refine ⟨⟨g, s, r, k, by rw [upd_ne n.symm]; exact h, c⟩, fun a u z e => ?_⟩
  rw [upd_ne (ne_of_none e hp)]
  exact m a u z e
theorem Bag4.ne {H : Hp} {b p : Addr} (h : Bag4 H b) (n : H p = none) : p ≠ b := by
  obtain ⟨g, s, r, k, e, _⟩ := h
  exact (ne_of_none e n).symm
theorem Bx4.free {b p : Addr} {H H' : Hp} (x : Bx4 b H H') (h : H' p = none) : H p = none := by
  have n : p ≠ b := x.1.ne h
  cases q : H p with
  | none => rfl
  | some o =>
    rw [x.2 p o n q] at h
    cases h
theorem Bag4.tup {H : Hp} {b a : Addr} {xs : List V} (h : Bag4 H b) (e : H a = some (.tup xs)) : a ≠ b := fun z => by
  obtain ⟨g, s, r, k, e2, _⟩ := h
  rw [z, e2] at e
  cases e
theorem mul_list (l : List Nat) (n : Int) (h : 0 ≤ n) : Txt.mul (sOf l) n = sOf (List.replicate n.toNat l).flatten := by
  obtain ⟨k, rfl⟩ := Int.eq_ofNat_of_zero_le h
  apply of_list
  unfold Txt.mul
  have main : ∀ (k : Nat) (acc : Array Nat), (List.foldl (· ++ ·) acc (List.replicate k (sOf l).cps)).toList = acc.toList ++ (List.replicate k l).flatten := by
    intro k
    induction k with
    | zero => intro acc; simp
    | succ k ih =>
      intro acc
      rw [List.replicate_succ, List.foldl_cons, ih, List.replicate_succ, List.flatten_cons]
      simp [sOf]
  split
  · have : k = 0 := by omega
    subst this
    rfl
  · split
    · rename_i _ e
      rw [sOf_list, Int.toNat_natCast]
      simp only [Bool.or_eq_true, beq_iff_eq] at e
      rcases e with e | e
      · have : k = 1 := by omega
        subst this
        simp
      · rw [sOf_len] at e
        have : l = [] := List.length_eq_zero_iff.mp e
        subst this
        simp
    · rw [Int.toNat_natCast]
      have := main k #[]
      simpa using this
section
variable {X : Cx}
theorem op_mulT : OpR X (binaryOp .Mult) (fun x y H Q => ∃ (l : List Nat) (n : Int), x = .str (sOf l) ∧ y = .int n ∧ (0 ≤ n ∧ n ≤ 10000 ∧ l.length ≤ 1000) ∧ Q (.str (sOf (List.replicate n.toNat l).flatten)) H) := by
  intro pins s σ H x y v u Q I rx ry h
  obtain ⟨l, n, rfl, rfl, hz, q⟩ := h
  obtain ⟨t, rfl⟩ := rx
  obtain ⟨t', rfl⟩ := ry
  refine SB.mul (mulOk_of 1000 10000 (by rw [sOf_len]; exact hz.2.2) (by omega) (by omega) (by decide) (by decide)) fun t' k => ?_
  rw [mul_list l n hz.1]
  exact ⟨.str _, H, I.tok _, ⟨_, rfl⟩, q⟩
end
theorem flat_len {l : List Nat} (n : Nat) : (List.replicate n l).flatten.length = n * l.length := by
  induction n with
  | zero => simp
  | succ k ih => rw [List.replicate_succ, List.flatten_cons, List.length_append, ih, Nat.succ_mul]; omega
theorem flat_bts {l : List Nat} (h : Bts l) (n : Nat) : Bts (List.replicate n l).flatten := fun c hc => by
  obtain ⟨m, hm, hc⟩ := List.mem_flatten.mp hc
  rw [(List.mem_replicate.mp hm).2] at hc
  exact h c hc
theorem str_bit (k : Nat) (h : k < 2) : (toString ((k : Nat) : Int) : Str) = sOf [48 + k] := by
  have : k = 0 ∨ k = 1 := by omega
  rcases this with rfl | rfl <;> decide +kernel
/-- texts joined by nothing -/
theorem join_flat : ∀ ls : List (List Nat), Txt.join (Str.ofString "") (ls.map sOf) = sOf ls.flatten := by
  intro ls
  show Builtin.Str.glued (Str.ofString "") (ls.map sOf) = sOf ls.flatten
  rw [StrLaws.glued_eq_join]
  induction ls with
  | nil => rfl
  | cons c r ih =>
    cases r with
    | nil =>
      show sOf c = sOf [c].flatten
      simp
    | cons d r =>
      show sOf c ++ Str.ofString "" ++ Str.join (Str.ofString "") (List.map sOf (d :: r)) = sOf (c :: d :: r).flatten
      rw [ih, show (Str.ofString "") = sOf [] from rfl, sOf_app, sOf_app, List.append_nil]
      rfl
theorem lens_sum (ls : List (List Nat)) : ((ls.map sOf).map (·.length)).sum = ls.flatten.length := by
  induction ls with
  | nil => rfl
  | cons c r ih =>
    rw [List.map_cons, List.map_cons, List.sum_cons, ih, sOf_len, List.flatten_cons, List.length_append]
theorem join_flat_size {ls : List (List Nat)} (h : ls.flatten.length ≤ 100000) : ((ls.map sOf).map (·.length)).sum + (ls.map sOf).length * (Str.ofString "").length ≤ 16777216 := by
  rw [lens_sum, show (Str.ofString "").length = 0 from rfl]
  omega
theorem sV_strs (ls : List (List Nat)) : ls.map sV = (ls.map sOf).map V.str := by
  rw [List.map_map]
  rfl
theorem flatten_snoc {ls : List (List Nat)} {l : List Nat} : (ls ++ [l]).flatten = ls.flatten ++ l := by simp
end Fp

set_option Elab.async false
set_option linter.all false
set_option maxRecDepth 100000
set_option maxHeartbeats 4000000
/-! Plain tellings read: the run whose bits stand at a place, the row that is read. -/
namespace Fp
open PySem L2 PyProof.Rows
/-- twenty words of which none begins another one -/
structure PF (W : List (List Nat)) : Prop where
  free : ∀ i, i < 20 → ∀ j, j < 20 → i ≠ j → ¬ W.getD i [] <+: W.getD j []
  pos : ∀ i, i < 20 → 0 < (W.getD i []).length
theorem pref_same {W : List (List Nat)} (h : PF W) {i j : Nat} (hi : i < 20) (hj : j < 20) {M : List Nat} (h1 : W.getD i [] <+: M) (h2 : W.getD j [] <+: M) : i = j := by
  by_cases e : i = j
  · exact e
  · exfalso
    rcases Nat.le_total (W.getD i []).length (W.getD j []).length with z | z
    · exact h.free i hi j hj e (List.prefix_of_prefix_length_le h1 h2 z)
    · exact h.free j hj i hi (fun y => e y.symm) (List.prefix_of_prefix_length_le h2 h1 z)
theorem pref_tail {A B M : List Nat} : A ++ B <+: M ↔ A <+: M ∧ B <+: M.drop A.length := by
  constructor
  · rintro ⟨t, rfl⟩
    refine ⟨⟨B ++ t, by rw [List.append_assoc]⟩, ⟨t, ?_⟩⟩
    rw [List.append_assoc, List.drop_left]
  · rintro ⟨⟨t, rfl⟩, ⟨u, e⟩⟩
    rw [List.drop_left] at e
    exact ⟨u, by rw [List.append_assoc, e]⟩
/-- the first word of a run -/
def hdW (r : Nat) : Nat := if r < 16 then r else 15 + r / 16
theorem hdW_lt {r : Nat} (h : r < 80) : hdW r < 20 := by
  unfold hdW
  split <;> omega
theorem run_parts (W : List (List Nat)) (r : Nat) (M : List Nat) : runT W r <+: M ↔ W.getD (hdW r) [] <+: M ∧ (16 ≤ r → W.getD (r - r / 16 * 16) [] <+: M.drop (W.getD (hdW r) []).length) := by
  unfold runT hdW
  by_cases h : r < 16
  · rw [if_pos h, if_pos h]
    exact ⟨fun x => ⟨x, fun y => absurd y (by omega)⟩, fun x => x.1⟩
  · rw [if_neg h, if_neg h, pref_tail]
    exact ⟨fun x => ⟨x.1, fun _ => x.2⟩, fun x => ⟨x.1, x.2 (by omega)⟩⟩
theorem run_uniq {W : List (List Nat)} (h : PF W) {r s : Nat} (hr : r < 80) (hs : s < 80) {M : List Nat} (h1 : runT W r <+: M) (h2 : runT W s <+: M) : r = s := by
  have a := (run_parts W r M).mp h1
  have b := (run_parts W s M).mp h2
  have e := pref_same h (hdW_lt hr) (hdW_lt hs) a.1 b.1
  have a2 := a.2
  rw [e] at a2
  have b2 := b.2
  have e0 := e
  unfold hdW at e
  by_cases z : r < 16
  · rw [if_pos z] at e
    by_cases y : s < 16
    · rw [if_pos y] at e
      exact e
    · rw [if_neg y] at e
      omega
  · rw [if_neg z] at e
    by_cases y : s < 16
    · rw [if_pos y] at e
      omega
    · rw [if_neg y] at e
      have t := pref_same h (by omega) (by omega) (a2 (by omega)) (b2 (by omega))
      omega
def runAt (W : List (List Nat)) (L : List Nat) (a : Nat) : Option Nat := (List.range 80).find? fun r => (runT W r).isPrefixOf (L.drop a)
theorem runAt_some {W : List (List Nat)} (h : PF W) {L : List Nat} {a r : Nat} : runAt W L a = some r ↔ r < 80 ∧ runT W r <+: L.drop a := by
  constructor
  · intro e
    have h1 := List.find?_some e
    have h2 := List.mem_of_find?_eq_some e
    exact ⟨List.mem_range.mp h2, List.isPrefixOf_iff_prefix.mp h1⟩
  · rintro ⟨h1, h2⟩
    cases e : runAt W L a with
    | none =>
      have := List.find?_eq_none.mp e r (List.mem_range.mpr h1)
      exact absurd (List.isPrefixOf_iff_prefix.mpr h2) (by simpa using this)
    | some s =>
      have h3 := List.find?_some e
      have h4 := List.mem_of_find?_eq_some e
      rw [run_uniq h h1 (List.mem_range.mp h4) h2 (List.isPrefixOf_iff_prefix.mp h3)]
theorem runAt_none {W : List (List Nat)} {L : List Nat} {a : Nat} : runAt W L a = none ↔ ∀ r, r < 80 → ¬ runT W r <+: L.drop a := by
  unfold runAt
  rw [List.find?_eq_none]
  constructor
  · intro h r hr z
    exact absurd (List.isPrefixOf_iff_prefix.mpr z) (by simpa using h r (List.mem_range.mpr hr))
  · intro h r hr z
    exact h r (List.mem_range.mp hr) (List.isPrefixOf_iff_prefix.mp z)
theorem runT_pos {W : List (List Nat)} (h : PF W) {r : Nat} (hr : r < 80) : 0 < (runT W r).length := by
  have := h.pos (hdW r) (hdW_lt hr)
  unfold runT
  unfold hdW at this
  split
  · rename_i z
    rw [if_pos z] at this
    exact this
  · rename_i z
    rw [if_neg z] at this
    rw [List.length_append]
    omega
def cN (d : Bool) : Nat := if d = true then 35 else 46
/-- the row that is read, within so many runs -/
def rdP (W : Bool → List (List Nat)) (m : Nat) (L : List Nat) : Nat → List Nat → Nat → Bool → Option (List Nat × Nat)
  | 0, row, a, _ => some (row, a)
  | f + 1, row, a, d => if row.length < m then (match runAt (W d) L a with
      | none => none
      | some r => if m < row.length + r ∨ (r = 0 ∧ 0 < a) then none else rdP W m L f (row ++ List.replicate r (cN d)) (a + (runT (W d) r).length) (!d))
    else some (row, a)
theorem rdP_full {W : Bool → List (List Nat)} {m : Nat} {L row : List Nat} {a f : Nat} {d : Bool} (h : m ≤ row.length) : rdP W m L f row a d = some (row, a) := by
  cases f with
  | zero => rfl
  | succ f =>
    unfold rdP
    rw [if_neg (by omega)]
theorem rdP_none {W : Bool → List (List Nat)} {m : Nat} {L row : List Nat} {a f : Nat} {d : Bool} (h : row.length < m) (e : runAt (W d) L a = none) : rdP W m L (f + 1) row a d = none := by
  unfold rdP
  rw [if_pos h, e]
theorem rdP_bad {W : Bool → List (List Nat)} {m r : Nat} {L row : List Nat} {a f : Nat} {d : Bool} (h : row.length < m) (e : runAt (W d) L a = some r) (b : m < row.length + r ∨ (r = 0 ∧ 0 < a)) : rdP W m L (f + 1) row a d = none := by
  unfold rdP
  rw [if_pos h, e]
  show (if _ then _ else _) = _
  rw [if_pos b]
theorem rdP_step {W : Bool → List (List Nat)} {m r : Nat} {L row : List Nat} {a f : Nat} {d : Bool} (h : row.length < m) (e : runAt (W d) L a = some r) (b : ¬ (m < row.length + r ∨ (r = 0 ∧ 0 < a))) : rdP W m L (f + 1) row a d = rdP W m L f (row ++ List.replicate r (cN d)) (a + (runT (W d) r).length) (!d) := by
  conv => lhs; unfold rdP
  rw [if_pos h, e]
  show (if _ then _ else _) = _
  rw [if_neg b]
/-- runs told, one behind the other -/
def plF (W : Bool → List (List Nat)) : List Nat → Bool → List Nat
  | [], _ => []
  | r :: rs, d => runT (W d) r ++ plF W rs (!d)
theorem cN_oth (d : Bool) : oth (cN d) = cN (!d) := by cases d <;> rfl
theorem rd_plain {W : Bool → List (List Nat)} (hW : ∀ d, PF (W d)) {m : Nat} (hm : m ≤ 79) : ∀ (rs : List Nat) (f : Nat) (L row : List Nat) (a : Nat) (d : Bool) (behind : List Nat), L.drop a = plF W rs d ++ behind → row.length + rs.sum = m → (∀ x ∈ rs.drop 1, 0 < x) → (rs ≠ [] → 0 < rs.sum) → (0 < a → ∀ x ∈ rs, 0 < x) → rs.length ≤ f →
    rdP W m L f row a d = some (row ++ unr rs (cN d), a + (plF W rs d).length)
  | [], f, L, row, a, d, behind, e, s, _, _, _, _ => by
    rw [List.sum_nil] at s
    rw [rdP_full (by omega)]
    show some (row, a) = some (row ++ [], a + 0)
    rw [List.append_nil, Nat.add_zero]
  | r :: rs, 0, L, row, a, d, behind, e, s, _, _, _, lf => by simp at lf
  | r :: rs, f + 1, L, row, a, d, behind, e, s, ps, ne, pa, lf => by
    rw [List.sum_cons] at s
    have sp := ne (by simp)
    rw [List.sum_cons] at sp
    have hr : runAt (W d) L a = some r := (runAt_some (hW d)).mpr ⟨by omega, by
      rw [e]
      exact ⟨plF W rs (!d) ++ behind, by rw [← List.append_assoc]; rfl⟩⟩
    have r80 : r < 80 := by omega
    have rp := runT_pos (hW d) r80
    rw [rdP_step (by omega) hr (by
      rintro (z | ⟨z, y⟩)
      · omega
      · have := pa y r (List.mem_cons_self ..)
        omega)]
    have e2 : L.drop (a + (runT (W d) r).length) = plF W rs (!d) ++ behind := by
      rw [← List.drop_drop, e]
      show ((runT (W d) r ++ plF W rs (!d)) ++ behind).drop _ = _
      rw [List.append_assoc, List.drop_left]
    have ps2 : ∀ x ∈ rs, 0 < x := ps
    rw [rd_plain hW hm rs f L (row ++ List.replicate r (cN d)) (a + (runT (W d) r).length) (!d) behind e2 (by rw [List.length_append, List.length_replicate]; omega) (fun x hx => ps2 x (List.mem_of_mem_drop hx)) (fun h => by
      cases rs with
      | nil => exact absurd rfl h
      | cons y t =>
        have := ps2 y (List.mem_cons_self ..)
        rw [List.sum_cons]
        omega) (fun _ => ps2) (by rw [List.length_cons] at lf; omega)]
    congr 1
    show (_, _) = (row ++ (List.replicate r (cN d) ++ unr rs (oth (cN d))), a + (runT (W d) r ++ plF W rs (!d)).length)
    rw [cN_oth, List.append_assoc, List.length_append, Nat.add_assoc]
/-- what is read is no longer than the breadth, and as far as bits go -/
theorem rdP_a {W : Bool → List (List Nat)} (hW : ∀ d, PF (W d)) {m : Nat} {L : List Nat} : ∀ (f : Nat) (row : List Nat) (a : Nat) (d : Bool) (r2 : List Nat) (a2 : Nat), a ≤ L.length → row.length ≤ m → rdP W m L f row a d = some (r2, a2) → r2.length ≤ m ∧ a2 ≤ L.length
  | 0, row, a, d, r2, a2, ha, hr, e => by
    have e : some (row, a) = some (r2, a2) := e
    cases e
    exact ⟨hr, ha⟩
  | f + 1, row, a, d, r2, a2, ha, hr, e => by
    by_cases z : row.length < m
    · cases q : runAt (W d) L a with
      | none =>
        rw [rdP_none z q] at e
        cases e
      | some r =>
        by_cases b : m < row.length + r ∨ (r = 0 ∧ 0 < a)
        · rw [rdP_bad z q b] at e
          cases e
        · rw [rdP_step z q b] at e
          have h2 := ((runAt_some (hW d)).mp q).2
          have h3 := h2.length_le
          rw [List.length_drop] at h3
          exact rdP_a hW f _ _ _ _ _ (by omega) (by rw [List.length_append, List.length_replicate]; omega) e
    · rw [rdP_full (by omega)] at e
      cases e
      exact ⟨hr, ha⟩
theorem rdP_row {W : Bool → List (List Nat)} {m : Nat} {L : List Nat} : ∀ (f : Nat) (row : List Nat) (a : Nat) (d : Bool) (r2 : List Nat) (a2 : Nat), Row row → rdP W m L f row a d = some (r2, a2) → Row r2
  | 0, row, a, d, r2, a2, hr, e => by
    have e : some (row, a) = some (r2, a2) := e
    cases e
    exact hr
  | f + 1, row, a, d, r2, a2, hr, e => by
    by_cases z : row.length < m
    · cases q : runAt (W d) L a with
      | none =>
        rw [rdP_none z q] at e
        cases e
      | some r =>
        by_cases b : m < row.length + r ∨ (r = 0 ∧ 0 < a)
        · rw [rdP_bad z q b] at e
          cases e
        · rw [rdP_step z q b] at e
          refine rdP_row f _ _ _ _ _ (fun x hx => ?_) e
          rcases List.mem_append.mp hx with h | h
          · exact hr x h
          · rw [(List.mem_replicate.mp h).2]
            cases d
            · exact .inl rfl
            · exact .inr rfl
    · rw [rdP_full (by omega)] at e
      cases e
      exact hr
/-! ### how the texts ask it -/
theorem take_pref {w M : List Nat} : M.take w.length = w ↔ w <+: M := by
  constructor
  · intro h
    rw [← h]
    exact List.take_prefix _ _
  · rintro ⟨t, rfl⟩
    exact List.take_left
theorem starts_at {l w : List Nat} {a : Nat} (h : a ≤ l.length) : Txt.startswith3 (sOf l) (sOf w) (a : Int) = decide (w <+: l.drop a) := by
  have ef : PySem.fromIndex (sOf l).length (a : Int) = a := by
    rw [sOf_len]
    unfold PySem.fromIndex
    omega
  unfold Txt.startswith3
  rw [ef, StrLaws.subAt_eq, sOf_list, sOf_list, sOf_len, sOf_len]
  rw [Bool.eq_iff_iff, Bool.and_eq_true, decide_eq_true_eq, decide_eq_true_eq, beq_iff_eq, take_pref]
  constructor
  · exact fun x => x.2
  · intro x
    have := x.length_le
    rw [List.length_drop] at this
    exact ⟨by omega, x⟩
theorem cut_at (l : List Nat) (a n : Nat) : cutS (sOf l) (some (a : Int)) (some ((a : Int) + (n : Int))) = sOf ((l.drop a).take n) := by
  rw [show (a : Int) + (n : Int) = ((a + n : Nat) : Int) from rfl]
  unfold cutS
  rw [HT.sIx_nat, HT.sIx_nat, sOf_len, sOf_list]
  congr 1
  by_cases h : a ≤ l.length
  · rw [Nat.min_eq_left h]
    by_cases h2 : a + n ≤ l.length
    · rw [Nat.min_eq_left h2, Nat.add_sub_cancel_left]
    · rw [Nat.min_eq_right (by omega), List.take_of_length_le (by rw [List.length_drop]; exact Nat.le_refl _), List.take_of_length_le (by rw [List.length_drop]; omega)]
  · rw [Nat.min_eq_right (by omega), Nat.min_eq_right (by omega), List.drop_length, List.drop_eq_nil_of_le (by omega), List.take_nil, List.take_nil]
/-! ### bits counted -/
theorem cnt_two : ∀ l : List Nat, cnt 48 l + cnt 49 l = ((l.filter fun c => c == 48 || c == 49).length : Int)
  | [] => rfl
  | c :: r => by
    have ih := cnt_two r
    rw [cnt_cons, cnt_cons, List.filter_cons]
    by_cases h : c = 48
    · subst h
      rw [if_pos rfl, if_neg (by decide), if_pos (by decide), List.length_cons]
      omega
    · by_cases h2 : c = 49
      · subst h2
        rw [if_neg (by decide), if_pos rfl, if_pos (by decide), List.length_cons]
        omega
      · rw [if_neg h, if_neg h2, if_neg (by simp [h, h2])]
        omega
def isB (l : List Nat) : Bool := l.all fun c => c == 48 || c == 49
theorem isB_iff {l : List Nat} : isB l = true ↔ Bts l := by
  unfold isB Bts
  rw [List.all_eq_true]
  constructor
  · intro h c hc
    have := h c hc
    rw [Bool.or_eq_true, beq_iff_eq, beq_iff_eq] at this
    exact this
  · intro h c hc
    rw [Bool.or_eq_true, beq_iff_eq, beq_iff_eq]
    exact h c hc
theorem bits_counted (l : List Nat) : decide (V.int (Txt.count (sOf l) (Str.ofString "0") + Txt.count (sOf l) (Str.ofString "1")) = V.int ((sOf l).length : Int)) = isB l := by
  have e0 : Txt.count (sOf l) (Str.ofString "0") = cnt 48 l := by
    have := count_is (sOf l) 48
    rw [sOf_list] at this
    exact this
  have e1 : Txt.count (sOf l) (Str.ofString "1") = cnt 49 l := by
    have := count_is (sOf l) 49
    rw [sOf_list] at this
    exact this
  rw [e0, e1, cnt_two, sOf_len, Bool.eq_iff_iff, decide_eq_true_eq, vint]
  unfold isB
  rw [List.all_eq_true]
  have key : (l.filter fun c => c == 48 || c == 49).length = l.length ↔ ∀ c ∈ l, (c == 48 || c == 49) = true := List.length_filter_eq_length_iff
  rw [← key]
  omega
/-- a test of two parts whose second is known where the first holds -/
theorem iteAndNo {p A B : Prop} [Decidable p] (b : B) (h : p → B → A) : if decide p = true then A else B := by
  by_cases z : p
  · rw [decide_eq_true z]
    exact h z b
  · rw [decide_eq_false z]
    exact b
end Fp

set_option Elab.async false
set_option linter.all false
set_option maxRecDepth 100000
set_option maxHeartbeats 4000000
set_option pp.maxSteps 3000
namespace K11
open PySem PySem.Spec PyProof.Rows L2 Fp L2H
def topS (i : Nat) : Stmt := PySem.Challenge.pw_farpage_k11_plain_tellings_spoilt.main.body.getD i (.Pass ⟨0, 0, 0, 0⟩)
abbrev s_is_bits : Stmt := topS 1
abbrev N_is_bits : List Str := ["thing"]
abbrev P_is_bits : List Str := ["thing"]
theorem sc_is_bits : FnScope N_is_bits P_is_bits (defScope s_is_bits) := ⟨rfl, rfl, rfl, by decide +kernel, rfl, by decide +kernel, by decide +kernel⟩
abbrev s_other_cell : Stmt := topS 16
abbrev N_other_cell : List Str := ["cell"]
abbrev P_other_cell : List Str := ["cell"]
theorem sc_other_cell : FnScope N_other_cell P_other_cell (defScope s_other_cell) := ⟨rfl, rfl, rfl, by decide +kernel, rfl, by decide +kernel, by decide +kernel⟩
abbrev s_words_by : Stmt := topS 21
abbrev N_words_by : List Str := ["lengths", "words", "ahead", "place", "begin"]
abbrev P_words_by : List Str := ["lengths"]
theorem sc_words_by : FnScope N_words_by P_words_by (defScope s_words_by) := ⟨rfl, rfl, rfl, by decide +kernel, rfl, by decide +kernel, by decide +kernel⟩
abbrev s_making_order : Stmt := topS 22
abbrev N_making_order : List Str := ["lengths"]
abbrev P_making_order : List Str := ["lengths"]
theorem sc_making_order : FnScope N_making_order P_making_order (defScope s_making_order) := ⟨rfl, rfl, rfl, by decide +kernel, rfl, by decide +kernel, by decide +kernel⟩
abbrev s_one_less : Stmt := topS 23
abbrev N_one_less : List Str := ["word", "last"]
abbrev P_one_less : List Str := ["word"]
theorem sc_one_less : FnScope N_one_less P_one_less (defScope s_one_less) := ⟨rfl, rfl, rfl, by decide +kernel, rfl, by decide +kernel, by decide +kernel⟩
abbrev s_colour_words : Stmt := topS 24
abbrev N_colour_words : List Str := ["cell"]
abbrev P_colour_words : List Str := ["cell"]
theorem sc_colour_words : FnScope N_colour_words P_colour_words (defScope s_colour_words) := ⟨rfl, rfl, rfl, by decide +kernel, rfl, by decide +kernel, by decide +kernel⟩
abbrev s_run_by : Stmt := topS 25
abbrev N_run_by : List Str := ["words", "run", "maker"]
abbrev P_run_by : List Str := ["words", "run"]
theorem sc_run_by : FnScope N_run_by P_run_by (defScope s_run_by) := ⟨rfl, rfl, rfl, by decide +kernel, rfl, by decide +kernel, by decide +kernel⟩
abbrev s_run_tables : Stmt := topS 27
abbrev N_run_tables : List Str := ["most"]
abbrev P_run_tables : List Str := ["most"]
theorem sc_run_tables : FnScope N_run_tables P_run_tables (defScope s_run_tables) := ⟨rfl, rfl, rfl, by decide +kernel, rfl, by decide +kernel, by decide +kernel⟩
abbrev s_run_table : Stmt := topS 28
abbrev N_run_table : List Str := ["cell", "most", "words", "run"]
abbrev P_run_table : List Str := ["cell", "most"]
theorem sc_run_table : FnScope N_run_table P_run_table (defScope s_run_table) := ⟨rfl, rfl, rfl, by decide +kernel, rfl, by decide +kernel, by decide +kernel⟩
abbrev s_read_by : Stmt := topS 29
abbrev N_read_by : List Str := ["table", "bits", "place", "number", "told"]
abbrev P_read_by : List Str := ["table", "bits", "place"]
theorem sc_read_by : FnScope N_read_by P_read_by (defScope s_read_by) := ⟨rfl, rfl, rfl, by decide +kernel, rfl, by decide +kernel, by decide +kernel⟩
abbrev s_read_plain : Stmt := topS 30
abbrev N_read_plain : List Str := ["breadth", "thing", "tables", "row", "many", "cell", "run"]
abbrev P_read_plain : List Str := ["breadth", "thing"]
theorem sc_read_plain : FnScope N_read_plain P_read_plain (defScope s_read_plain) := ⟨rfl, rfl, rfl, by decide +kernel, rfl, by decide +kernel, by decide +kernel⟩
abbrev s_bag : Stmt := topS 32
abbrev N_bag : List Str := ["_law_script", "_law_at", "_law_cell", "_law_great"]
abbrev P_bag : List Str := ["_law_script", "_law_at"]
theorem sc_bag : FnScope N_bag P_bag (defScope s_bag) := ⟨rfl, rfl, rfl, by decide +kernel, rfl, by decide +kernel, by decide +kernel⟩
abbrev s_draw : Stmt := topS 33
abbrev N_draw : List Str := ["_law_bag_here", "_law_many", "_law_digit"]
abbrev P_draw : List Str := ["_law_bag_here", "_law_many"]
theorem sc_draw : FnScope N_draw P_draw (defScope s_draw) := ⟨rfl, rfl, rfl, by decide +kernel, rfl, by decide +kernel, by decide +kernel⟩
abbrev s_row : Stmt := topS 34
abbrev N_row : List Str := ["_law_bag_here", "_law_breadth", "_law_above", "_law_way", "_law_row_here", "_law_most", "_law_colour", "_law_left", "_law_place", "_law_turn"]
abbrev P_row : List Str := ["_law_bag_here", "_law_breadth", "_law_above"]
theorem sc_row : FnScope N_row P_row (defScope s_row) := ⟨rfl, rfl, rfl, by decide +kernel, rfl, by decide +kernel, by decide +kernel⟩
abbrev s_whole : Stmt := topS 35
abbrev N_whole : List Str := ["_law_thing"]
abbrev P_whole : List Str := ["_law_thing"]
theorem sc_whole : FnScope N_whole P_whole (defScope s_whole) := ⟨rfl, rfl, rfl, by decide +kernel, rfl, by decide +kernel, by decide +kernel⟩
abbrev s_less : Stmt := topS 36
abbrev N_less : List Str := ["_law_word", "_law_number", "_law_bit", "_law_found"]
abbrev P_less : List Str := ["_law_word"]
theorem sc_less : FnScope N_less P_less (defScope s_less) := ⟨rfl, rfl, rfl, by decide +kernel, rfl, by decide +kernel, by decide +kernel⟩
abbrev s_words : Stmt := topS 37
abbrev N_words : List Str := ["_law_lengths", "_law_found", "_law_last", "_law_length", "_law_place"]
abbrev P_words : List Str := ["_law_lengths"]
theorem sc_words : FnScope N_words P_words (defScope s_words) := ⟨rfl, rfl, rfl, by decide +kernel, rfl, by decide +kernel, by decide +kernel⟩
abbrev s_tables : Stmt := topS 38
abbrev N_tables : List Str := ["_law_light", "_law_dark"]
abbrev P_tables : List Str := []
theorem sc_tables : FnScope N_tables P_tables (defScope s_tables) := ⟨rfl, rfl, rfl, by decide +kernel, rfl, by decide +kernel, by decide +kernel⟩
abbrev s_run : Stmt := topS 39
abbrev N_run : List Str := ["_law_tables_here", "_law_colour", "_law_run_here", "_law_words_here"]
abbrev P_run : List Str := ["_law_tables_here", "_law_colour", "_law_run_here"]
theorem sc_run : FnScope N_run P_run (defScope s_run) := ⟨rfl, rfl, rfl, by decide +kernel, rfl, by decide +kernel, by decide +kernel⟩
abbrev s_plain : Stmt := topS 40
abbrev N_plain : List Str := ["_law_tables_here", "_law_row_here", "_law_found", "_law_colour", "_law_begin", "_law_place"]
abbrev P_plain : List Str := ["_law_tables_here", "_law_row_here"]
theorem sc_plain : FnScope N_plain P_plain (defScope s_plain) := ⟨rfl, rfl, rfl, by decide +kernel, rfl, by decide +kernel, by decide +kernel⟩
abbrev s_run_at : Stmt := topS 41
abbrev N_run_at : List Str := ["_law_tables_here", "_law_colour", "_law_bits", "_law_at", "_law_words_here", "_law_place", "_law_end"]
abbrev P_run_at : List Str := ["_law_tables_here", "_law_colour", "_law_bits", "_law_at"]
theorem sc_run_at : FnScope N_run_at P_run_at (defScope s_run_at) := ⟨rfl, rfl, rfl, by decide +kernel, rfl, by decide +kernel, by decide +kernel⟩
abbrev s_read_plain_l : Stmt := topS 42
abbrev N_read_plain_l : List Str := ["_law_tables_here", "_law_breadth", "_law_bits", "_law_row_here", "_law_colour", "_law_at", "_law_turn", "_law_found"]
abbrev P_read_plain_l : List Str := ["_law_tables_here", "_law_breadth", "_law_bits"]
theorem sc_read_plain_l : FnScope N_read_plain_l P_read_plain_l (defScope s_read_plain_l) := ⟨rfl, rfl, rfl, by decide +kernel, rfl, by decide +kernel, by decide +kernel⟩
abbrev s_spoils : Stmt := topS 43
abbrev N_spoils : List Str := ["_law_bag_here", "_law_many", "_law_most", "_law_found", "_law_k", "_law_word", "_law_place"]
abbrev P_spoils : List Str := ["_law_bag_here", "_law_many", "_law_most"]
theorem sc_spoils : FnScope N_spoils P_spoils (defScope s_spoils) := ⟨rfl, rfl, rfl, by decide +kernel, rfl, by decide +kernel, by decide +kernel⟩
abbrev s_lspoiled : Stmt := topS 44
abbrev N_lspoiled : List Str := ["_law_bits", "_law_spoils_here", "_law_spoil", "_law_found", "_law_place"]
abbrev P_lspoiled : List Str := ["_law_bits", "_law_spoils_here"]
theorem sc_lspoiled : FnScope N_lspoiled P_lspoiled (defScope s_lspoiled) := ⟨rfl, rfl, rfl, by decide +kernel, rfl, by decide +kernel, by decide +kernel⟩
abbrev s_signs : Stmt := topS 45
abbrev N_signs : List Str := []
abbrev P_signs : List Str := []
theorem sc_signs : FnScope N_signs P_signs (defScope s_signs) := ⟨rfl, rfl, rfl, by decide +kernel, rfl, by decide +kernel, by decide +kernel⟩
abbrev s_odd : Stmt := topS 46
abbrev N_odd : List Str := ["_law_bag_here", "_law_some"]
abbrev P_odd : List Str := ["_law_bag_here"]
theorem sc_odd : FnScope N_odd P_odd (defScope s_odd) := ⟨rfl, rfl, rfl, by decide +kernel, rfl, by decide +kernel, by decide +kernel⟩
abbrev s_only : Stmt := topS 47
abbrev N_only : List Str := ["_law_e", "_law_due_here", "_law_kinds", "_law_k"]
abbrev P_only : List Str := ["_law_e", "_law_due_here"]
theorem sc_only : FnScope N_only P_only (defScope s_only) := ⟨rfl, rfl, rfl, by decide +kernel, rfl, by decide +kernel, by decide +kernel⟩
abbrev s_due : Stmt := topS 48
abbrev N_due : List Str := ["_law_tables_here", "_law_breadth", "_law_thing", "_law_sign"]
abbrev P_due : List Str := ["_law_tables_here", "_law_breadth", "_law_thing"]
theorem sc_due : FnScope N_due P_due (defScope s_due) := ⟨rfl, rfl, rfl, by decide +kernel, rfl, by decide +kernel, by decide +kernel⟩
abbrev s_good : Stmt := topS 49
abbrev N_good : List Str := ["_law_tables_here", "_law_breadth", "_law_thing", "_law_due_here", "_law_found", "_law_e"]
abbrev P_good : List Str := ["_law_tables_here", "_law_breadth", "_law_thing"]
theorem sc_good : FnScope N_good P_good (defScope s_good) := ⟨rfl, rfl, rfl, by decide +kernel, rfl, by decide +kernel, by decide +kernel⟩
abbrev s_split_run : Stmt := topS 50
abbrev N_split_run : List Str := ["_law_tables_here", "_law_row_here", "_law_bits", "_law_many", "_law_place", "_law_first", "_law_parted"]
abbrev P_split_run : List Str := ["_law_tables_here", "_law_row_here"]
theorem sc_split_run : FnScope N_split_run P_split_run (defScope s_split_run) := ⟨rfl, rfl, rfl, by decide +kernel, rfl, by decide +kernel, by decide +kernel⟩
abbrev s_things : Stmt := topS 51
abbrev N_things : List Str := ["_law_bag_here", "_law_tables_here", "_law_row_here", "_law_bits", "_law_signs_here", "_law_place", "_law_found", "_law_turn"]
abbrev P_things : List Str := ["_law_bag_here", "_law_tables_here", "_law_row_here"]
theorem sc_things : FnScope N_things P_things (defScope s_things) := ⟨rfl, rfl, rfl, by decide +kernel, rfl, by decide +kernel, by decide +kernel⟩
abbrev s_law : Stmt := topS 52
abbrev N_law : List Str := ["_law_script", "_law_tables_here", "_law_k", "_law_bag_here", "_law_breadth", "_law_row_here", "_law_turn", "_law_thing"]
abbrev P_law : List Str := ["_law_script"]
theorem sc_law : FnScope N_law P_law (defScope s_law) := ⟨rfl, rfl, rfl, by decide +kernel, rfl, by decide +kernel, by decide +kernel⟩
structure Ad where
  a_is_bits : Addr
  d_is_bits : FuncData
  a_other_cell : Addr
  d_other_cell : FuncData
  a_words_by : Addr
  d_words_by : FuncData
  a_making_order : Addr
  d_making_order : FuncData
  a_one_less : Addr
  d_one_less : FuncData
  a_colour_words : Addr
  d_colour_words : FuncData
  a_run_by : Addr
  d_run_by : FuncData
  a_run_tables : Addr
  d_run_tables : FuncData
  a_run_table : Addr
  d_run_table : FuncData
  a_read_by : Addr
  d_read_by : FuncData
  a_read_plain : Addr
  d_read_plain : FuncData
  a_bag : Addr
  d_bag : FuncData
  a_draw : Addr
  d_draw : FuncData
  a_row : Addr
  d_row : FuncData
  a_whole : Addr
  d_whole : FuncData
  a_less : Addr
  d_less : FuncData
  a_words : Addr
  d_words : FuncData
  a_tables : Addr
  d_tables : FuncData
  a_run : Addr
  d_run : FuncData
  a_plain : Addr
  d_plain : FuncData
  a_run_at : Addr
  d_run_at : FuncData
  a_read_plain_l : Addr
  d_read_plain_l : FuncData
  a_spoils : Addr
  d_spoils : FuncData
  a_lspoiled : Addr
  d_lspoiled : FuncData
  a_signs : Addr
  d_signs : FuncData
  a_odd : Addr
  d_odd : FuncData
  a_only : Addr
  d_only : FuncData
  a_due : Addr
  d_due : FuncData
  a_good : Addr
  d_good : FuncData
  a_split_run : Addr
  d_split_run : FuncData
  a_things : Addr
  d_things : FuncData
  a_law : Addr
  d_law : FuncData
  t_DARK : Tok
  t_ENDS : Tok
  t_LENGTHS : Addr
  t_LIGHT : Tok
  t_MAKERS : Tok
  k_making_order : Addr
  p_making_order : Addr
  u_LENGTHS_0 : Addr
  u_LENGTHS_1 : Addr
  x_FarError : Addr
  x_NoPage : Addr
  x_NoWords : Addr
  x_NoTelling : Addr
  x_NoFrame : Addr
  x_NoPiece : Addr
  x_NoName : Addr
  x_NoEnds : Addr
  x_NoCall : Addr
  x_NoSaying : Addr
structure Txt (w : World) (K : PySem.W.Frag) (mg : Str → Option Value) (base : Heap) (A : Ad) : Prop where
  F_is_bits : Fun K "is_bits" "is_bits" s_is_bits A.a_is_bits A.d_is_bits
  b_is_bits : Binds K A.d_is_bits P_is_bits []
  g_is_bits : mg "is_bits" = some (.ref A.a_is_bits)
  F_other_cell : Fun K "other_cell" "other_cell" s_other_cell A.a_other_cell A.d_other_cell
  b_other_cell : Binds K A.d_other_cell P_other_cell []
  g_other_cell : mg "other_cell" = some (.ref A.a_other_cell)
  F_words_by : Fun K "words_by" "words_by" s_words_by A.a_words_by A.d_words_by
  b_words_by : Binds K A.d_words_by P_words_by []
  g_words_by : mg "words_by" = some (.ref A.a_words_by)
  F_making_order : Fun K "making_order" "making_order" s_making_order A.a_making_order A.d_making_order
  b_making_order : Binds K A.d_making_order P_making_order []
  g_making_order : mg "making_order" = some (.ref A.a_making_order)
  F_one_less : Fun K "one_less" "one_less" s_one_less A.a_one_less A.d_one_less
  b_one_less : Binds K A.d_one_less P_one_less []
  g_one_less : mg "one_less" = some (.ref A.a_one_less)
  F_colour_words : Fun K "colour_words" "colour_words" s_colour_words A.a_colour_words A.d_colour_words
  b_colour_words : Binds K A.d_colour_words P_colour_words []
  g_colour_words : mg "colour_words" = some (.ref A.a_colour_words)
  F_run_by : Fun K "run_by" "run_by" s_run_by A.a_run_by A.d_run_by
  b_run_by : Binds K A.d_run_by P_run_by []
  g_run_by : mg "run_by" = some (.ref A.a_run_by)
  F_run_tables : Fun K "run_tables" "run_tables" s_run_tables A.a_run_tables A.d_run_tables
  b_run_tables : Binds K A.d_run_tables P_run_tables []
  g_run_tables : mg "run_tables" = some (.ref A.a_run_tables)
  F_run_table : Fun K "run_table" "run_table" s_run_table A.a_run_table A.d_run_table
  b_run_table : Binds K A.d_run_table P_run_table []
  g_run_table : mg "run_table" = some (.ref A.a_run_table)
  F_read_by : Fun K "read_by" "read_by" s_read_by A.a_read_by A.d_read_by
  b_read_by : Binds K A.d_read_by P_read_by []
  g_read_by : mg "read_by" = some (.ref A.a_read_by)
  F_read_plain : Fun K "read_plain" "read_plain" s_read_plain A.a_read_plain A.d_read_plain
  b_read_plain : Binds K A.d_read_plain P_read_plain []
  g_read_plain : mg "read_plain" = some (.ref A.a_read_plain)
  F_bag : Fun K "_law_bag" "_law_bag" s_bag A.a_bag A.d_bag
  b_bag : Binds K A.d_bag P_bag []
  g_bag : mg "_law_bag" = some (.ref A.a_bag)
  F_draw : Fun K "_law_draw" "_law_draw" s_draw A.a_draw A.d_draw
  b_draw : Binds K A.d_draw P_draw []
  g_draw : mg "_law_draw" = some (.ref A.a_draw)
  F_row : Fun K "_law_row" "_law_row" s_row A.a_row A.d_row
  b_row : Binds K A.d_row P_row []
  g_row : mg "_law_row" = some (.ref A.a_row)
  F_whole : Fun K "_law_whole" "_law_whole" s_whole A.a_whole A.d_whole
  b_whole : Binds K A.d_whole P_whole []
  g_whole : mg "_law_whole" = some (.ref A.a_whole)
  F_less : Fun K "_law_less" "_law_less" s_less A.a_less A.d_less
  b_less : Binds K A.d_less P_less []
  g_less : mg "_law_less" = some (.ref A.a_less)
  F_words : Fun K "_law_words" "_law_words" s_words A.a_words A.d_words
  b_words : Binds K A.d_words P_words []
  g_words : mg "_law_words" = some (.ref A.a_words)
  F_tables : Fun K "_law_tables" "_law_tables" s_tables A.a_tables A.d_tables
  b_tables : Binds K A.d_tables P_tables []
  g_tables : mg "_law_tables" = some (.ref A.a_tables)
  F_run : Fun K "_law_run" "_law_run" s_run A.a_run A.d_run
  b_run : Binds K A.d_run P_run []
  g_run : mg "_law_run" = some (.ref A.a_run)
  F_plain : Fun K "_law_plain" "_law_plain" s_plain A.a_plain A.d_plain
  b_plain : Binds K A.d_plain P_plain []
  g_plain : mg "_law_plain" = some (.ref A.a_plain)
  F_run_at : Fun K "_law_run_at" "_law_run_at" s_run_at A.a_run_at A.d_run_at
  b_run_at : Binds K A.d_run_at P_run_at []
  g_run_at : mg "_law_run_at" = some (.ref A.a_run_at)
  F_read_plain_l : Fun K "_law_read_plain" "_law_read_plain" s_read_plain_l A.a_read_plain_l A.d_read_plain_l
  b_read_plain_l : Binds K A.d_read_plain_l P_read_plain_l []
  g_read_plain_l : mg "_law_read_plain" = some (.ref A.a_read_plain_l)
  F_spoils : Fun K "_law_spoils" "_law_spoils" s_spoils A.a_spoils A.d_spoils
  b_spoils : Binds K A.d_spoils P_spoils []
  g_spoils : mg "_law_spoils" = some (.ref A.a_spoils)
  F_lspoiled : Fun K "_law_spoiled" "_law_spoiled" s_lspoiled A.a_lspoiled A.d_lspoiled
  b_lspoiled : Binds K A.d_lspoiled P_lspoiled []
  g_lspoiled : mg "_law_spoiled" = some (.ref A.a_lspoiled)
  F_signs : Fun K "_law_signs" "_law_signs" s_signs A.a_signs A.d_signs
  b_signs : Binds K A.d_signs P_signs []
  g_signs : mg "_law_signs" = some (.ref A.a_signs)
  F_odd : Fun K "_law_odd" "_law_odd" s_odd A.a_odd A.d_odd
  b_odd : Binds K A.d_odd P_odd []
  g_odd : mg "_law_odd" = some (.ref A.a_odd)
  F_only : Fun K "_law_only" "_law_only" s_only A.a_only A.d_only
  b_only : Binds K A.d_only P_only []
  g_only : mg "_law_only" = some (.ref A.a_only)
  F_due : Fun K "_law_due" "_law_due" s_due A.a_due A.d_due
  b_due : Binds K A.d_due P_due []
  g_due : mg "_law_due" = some (.ref A.a_due)
  F_good : Fun K "_law_good" "_law_good" s_good A.a_good A.d_good
  b_good : Binds K A.d_good P_good []
  g_good : mg "_law_good" = some (.ref A.a_good)
  F_split_run : Fun K "_law_split_run" "_law_split_run" s_split_run A.a_split_run A.d_split_run
  b_split_run : Binds K A.d_split_run P_split_run []
  g_split_run : mg "_law_split_run" = some (.ref A.a_split_run)
  F_things : Fun K "_law_things" "_law_things" s_things A.a_things A.d_things
  b_things : Binds K A.d_things P_things []
  g_things : mg "_law_things" = some (.ref A.a_things)
  F_law : Fun K "law" "law" s_law A.a_law A.d_law
  g_law : mg "law" = some (.ref A.a_law)
  TB_making_order : LamX.TabB base mg A.k_making_order A.p_making_order
  L_making_order : ∃ (oc : Value) (od : Option Addr) (kV doc pm : Value) (an : Option Addr) (ct : Value) (osl : Array (Option Value)), K.lookup A.a_making_order = some ⟨oc, od, .func (PySem.W.fnOf "making_order" "making_order" (defArgs s_making_order) (defBody s_making_order) (defScope s_making_order) .none kV doc pm an (.ref A.k_making_order) ct), osl⟩ ∧ PySem.W.codeIn K (.ref A.k_making_order) "making_order" = true
  D_LENGTHS_0 : KDct K w A.t_LENGTHS (Str.ofString ".") (.ref A.u_LENGTHS_0)
  S_LENGTHS_0 : ∀ H : Hp, SqT K H A.u_LENGTHS_0 [.int 6, .int 4, .int 4, .int 4, .int 4, .int 4, .int 5, .int 5, .int 5, .int 5, .int 6, .int 6, .int 6, .int 6, .int 6, .int 6, .int 4, .int 5, .int 6, .int 4]
  D_LENGTHS_1 : KDct K w A.t_LENGTHS (Str.ofString "#") (.ref A.u_LENGTHS_1)
  S_LENGTHS_1 : ∀ H : Hp, SqT K H A.u_LENGTHS_1 [.int 7, .int 2, .int 3, .int 3, .int 4, .int 4, .int 5, .int 5, .int 5, .int 6, .int 6, .int 6, .int 7, .int 7, .int 7, .int 7, .int 6, .int 7, .int 7, .int 7]
  xg_FarError : mg "FarError" = some (.ref A.x_FarError)
  ki_FarError : PySem.W.kitOne K (.ref A.x_NoTelling) (.ref A.x_FarError) = some true
  xg_NoPage : mg "NoPage" = some (.ref A.x_NoPage)
  ki_NoPage : PySem.W.kitOne K (.ref A.x_NoTelling) (.ref A.x_NoPage) = some false
  xg_NoWords : mg "NoWords" = some (.ref A.x_NoWords)
  ki_NoWords : PySem.W.kitOne K (.ref A.x_NoTelling) (.ref A.x_NoWords) = some false
  xg_NoTelling : mg "NoTelling" = some (.ref A.x_NoTelling)
  ki_NoTelling : PySem.W.kitOne K (.ref A.x_NoTelling) (.ref A.x_NoTelling) = some true
  xg_NoFrame : mg "NoFrame" = some (.ref A.x_NoFrame)
  ki_NoFrame : PySem.W.kitOne K (.ref A.x_NoTelling) (.ref A.x_NoFrame) = some false
  xg_NoPiece : mg "NoPiece" = some (.ref A.x_NoPiece)
  ki_NoPiece : PySem.W.kitOne K (.ref A.x_NoTelling) (.ref A.x_NoPiece) = some false
  xg_NoName : mg "NoName" = some (.ref A.x_NoName)
  ki_NoName : PySem.W.kitOne K (.ref A.x_NoTelling) (.ref A.x_NoName) = some false
  xg_NoEnds : mg "NoEnds" = some (.ref A.x_NoEnds)
  ki_NoEnds : PySem.W.kitOne K (.ref A.x_NoTelling) (.ref A.x_NoEnds) = some false
  xg_NoCall : mg "NoCall" = some (.ref A.x_NoCall)
  ki_NoCall : PySem.W.kitOne K (.ref A.x_NoTelling) (.ref A.x_NoCall) = some false
  xg_NoSaying : mg "NoSaying" = some (.ref A.x_NoSaying)
  ki_NoSaying : PySem.W.kitOne K (.ref A.x_NoTelling) (.ref A.x_NoSaying) = some false
  xq_NoTelling : PySem.W.excIn K A.x_NoTelling veB "ValueError.__new__" = true
  xk_NoTelling : PySem.W.keepIn K (.ref A.x_NoTelling) = true
  xs_NoTelling : PySem.W.subIn K (.ref A.x_NoTelling) (.type "BaseException") = some true
  xt_NoTelling : PySem.W.typeIn K (.ref A.x_NoTelling) = some (.type "type")
  xe : ExcC K A.x_NoTelling
  kv : PySem.W.kitOne K (.ref A.x_NoTelling) (.type "ValueError") = some true
  xm_FarError : PySem.W.exmOne K (.ref A.x_NoTelling) (.ref A.x_FarError) = some true
  z_ValueError : mg "ValueError" = none
  z_abs : mg "abs" = none
  z_all : mg "all" = none
  z_bool : mg "bool" = none
  z_enumerate : mg "enumerate" = none
  z_int : mg "int" = none
  z_isinstance : mg "isinstance" = none
  z_len : mg "len" = none
  z_list : mg "list" = none
  z_max : mg "max" = none
  z_min : mg "min" = none
  z_range : mg "range" = none
  z_sorted : mg "sorted" = none
  z_str : mg "str" = none
  z_tuple : mg "tuple" = none
  c_DARK : mg "DARK" = some (.str "#" A.t_DARK)
  c_ENDS : mg "ENDS" = some (.int (16) A.t_ENDS)
  c_LENGTHS : mg "LENGTHS" = some (.ref A.t_LENGTHS)
  c_LIGHT : mg "LIGHT" = some (.str "." A.t_LIGHT)
  c_MAKERS : mg "MAKERS" = some (.int (4) A.t_MAKERS)
section
variable {P : Program} {w : World} {K : PySem.W.Frag} {mg : Str → Option Value} {base : Heap}
def spBag (K : PySem.W.Frag) : Sp := fun vs H Q _ => ∃ (a : Addr) (ns : List Int) (k : Int), vs = [.ref a, .int k] ∧ SqL K H a (ns.map V.int) ∧ 0 ≤ k ∧ k ≤ 1000 ∧
  ∀ p g s, H p = none → 0 ≤ g → 0 ≤ s → s < 1000000000000 → Q (.ref p) (upd H p (.lst [.int g, .int s]))
theorem ok_bag {A : Ad} (T : Txt w K mg base A) : FnOk P w K mg base CX0 1 A.a_bag A.d_bag P_bag (spBag K) := by
  refine T.F_bag.ok sc_bag (fun vs H Q E h => ?_) (fun cdv Ar outer s H vs Q E hr h => ?_)
  · obtain ⟨a, ns, k, rfl, _⟩ := h
    rfl
  · obtain ⟨a, ns, k, rfl, hS, k0, k1, q⟩ := h
    refine ⟨_, (pss_cons (ps_set (i := 2) sc_bag.nd rfl (Or.inl rfl) pe_int)
      (pss_cons (ps_if (pt_cmpR op_lt (pv 1) (pe_callB (r := fun xs H Q => ∃ p ys, xs = [.ref p] ∧ (SqL K H p ys ∨ SqT K H p ys) ∧ Q (.int ys.length) H) call_len_seq (by rfl) T.z_len PySem.boot_len (pa_cons (pv 0) pa_nil)) (nomark _))
      (pss_one (ps_set (i := 2) sc_bag.nd rfl (Or.inl rfl) (pe_ix (r := rIxL K) ix_list (pv 0) (pv 1) (fun _ _ => rfl)))) pss_nil)
      (pss_cons (ps_set (i := 3) sc_bag.nd rfl (Or.inl rfl) pe_int)
      (pss_cons (ps_if (pt_cmpR op_ge (pe_callB call_abs (by rfl) T.z_abs (by decide +kernel) (pa_cons (pv 2) pa_nil)) (pe_op op_pow pe_int pe_int) (nomark _))
      (pss_one (ps_set (i := 3) sc_bag.nd rfl (Or.inl rfl) (pe_callB call_abs (by rfl) T.z_abs (by decide +kernel) (pa_cons (pv 2) pa_nil)))) pss_nil)
      (pss_one (ps_ret (pe_lst (pa_cons (pv 3) (pa_cons (pe_op op_add (pe_op op_add (pe_op op_mul (pe_op op_mod (pv 2) pe_int) pe_int) (pe_op op_mul pe_int (pv 1))) pe_int) pa_nil))))))))), ?_⟩
    have fin : ∀ (c g : Int), 0 ≤ g → tSeq (tIfS (tTest (tOp (rI0 fun i j => .bl (decide (j ≤ i))) (tCB (fun xs H Q => ∃ i, xs = [.int i] ∧ Q (.int (if i < 0 then -i else i)) H) (tCons (tVar 2) tNil)) (tOp (rI CPow fun i j => .int (i ^ j.toNat)) (tC (.int 10)) (tC (.int 18))))) (tAsg (tCB (fun xs H Q => ∃ i, xs = [.int i] ∧ Q (.int (if i < 0 then -i else i)) H) (tCons (tVar 2) tNil)) (gName 3)) tNext)
        (tRet (tLst (tCons (tVar 3) (tCons (tOp (rI0 fun i j => .int (i + j)) (tOp (rI0 fun i j => .int (i + j)) (tOp (rI CMul fun i j => .int (i * j)) (tOp (rI (fun _ j => 0 < j) fun i j => .int (i % j)) (tVar 2) (tC (.int 1000000007))) (tC (.int 7))) (tOp (rI CMul fun i j => .int (i * j)) (tC (.int 1013)) (tVar 1))) (tC (.int 5))) tNil)))) { nx := fun _ H' => Q .non H', rt := Q } [some (.ref a), some (.int k), some (.int c), some (.int g)] H := by
      intro c g g0
      have fin2 : ∀ (g : Int), 0 ≤ g → tRet (tLst (tCons (tVar 3) (tCons (tOp (rI0 fun i j => .int (i + j)) (tOp (rI0 fun i j => .int (i + j)) (tOp (rI CMul fun i j => .int (i * j)) (tOp (rI (fun _ j => 0 < j) fun i j => .int (i % j)) (tVar 2) (tC (.int 1000000007))) (tC (.int 7))) (tOp (rI CMul fun i j => .int (i * j)) (tC (.int 1013)) (tVar 1))) (tC (.int 5))) tNil))) { nx := fun _ H' => Q .non H', rt := Q } [some (.ref a), some (.int k), some (.int c), some (.int g)] H := by
        intro g g0
        have m0 := Int.emod_nonneg c (show (1000000007 : Int) ≠ 0 by decide)
        have m1 := Int.emod_lt_of_pos c (show (0 : Int) < 1000000007 by decide)
        refine ⟨_, rfl, _, rfl, _, _, rfl, rfl, (by show (0 : Int) < 1000000007; decide), _, _, rfl, rfl, .inr ⟨by decide, by decide⟩, _, rfl, _, _, rfl, rfl, .inl ⟨by decide, by decide⟩, _, _, rfl, rfl, _, _, rfl, rfl, (by show 2 ≤ sizeLine; decide), fun p hp => ?_⟩
        exact q p g _ hp g0 (by omega) (by omega)
      refine ⟨_, rfl, _, rfl, _, _, rfl, rfl, ⟨by decide, by decide, by decide⟩, _, _, rfl, rfl, _, rfl, ite2 (fun e => ?_) (fun e => ?_)⟩
      · refine ⟨_, rfl, _, rfl, fin2 _ ?_⟩
        split <;> omega
      · exact fin2 g g0
    refine ⟨_, rfl, _, rfl, _, _, rfl, .inl hS, _, _, rfl, rfl, _, rfl, ite2 (fun e => ?_) (fun e => ?_)⟩
    · have lt : k < ((ns.map V.int).length : Int) := of_decide_eq_true e
      obtain ⟨j, rfl⟩ := Int.eq_ofNat_of_zero_le k0
      have hj : j < ns.length := by
        rw [List.length_map] at lt
        omega
      have g : (ns.map V.int)[j]? = some (.int ns[j]) := by
        rw [List.getElem?_map, List.getElem?_eq_getElem hj]
        rfl
      refine ⟨_, rfl, _, rfl, _, _, _, _, rfl, rfl, hS, atI_nat g, ?_⟩
      exact fin _ 0 (Int.le_refl _)
    · exact fin 0 0 (Int.le_refl _)
def spDraw : Sp := fun vs H Q _ => ∃ (b : Addr) (m : Int), vs = [.ref b, .int m] ∧ BagAt H b ∧ 0 < m ∧ m < 1000000 ∧
  ∀ (d : Int) (H' : Hp), 0 ≤ d → d < m → Bx b H H' → Q (.int d) H'
theorem ok_draw {A : Ad} (T : Txt w K mg base A) : FnOk P w K mg base CX0 1 A.a_draw A.d_draw P_draw spDraw := by
  refine T.F_draw.ok sc_draw (fun vs H Q E h => ?_) (fun cdv Ar outer s H vs Q E hr h => ?_)
  · obtain ⟨b, m, rfl, _⟩ := h
    rfl
  · obtain ⟨b, m, rfl, ⟨g, s, hb, g0, s0, s1⟩, m0, m1, q⟩ := h
    refine ⟨_, (pss_cons (ps_if (pt_cmpR op_gt (pe_ix (r := rIxL K) ix_list (pv 0) pe_int (fun _ _ => rfl)) pe_int (nomark _))
      (pss_cons (ps_set (i := 2) sc_draw.nd rfl (Or.inl rfl) (pe_op op_mod (pe_ix (r := rIxL K) ix_list (pv 0) pe_int (fun _ _ => rfl)) (pv 1)))
      (pss_cons (ps_asg (pe_op op_fdiv (pe_ix (r := rIxL K) ix_list (pv 0) pe_int (fun _ _ => rfl)) (pv 1)) (pg_sub (pv 0) pe_int set_list))
      (pss_one (ps_ret (pv 2))))) pss_nil)
      (pss_cons (ps_asg (pe_op op_mod (pe_op op_add (pe_op op_mul (pe_ix (r := rIxL K) ix_list (pv 0) pe_int (fun _ _ => rfl)) pe_int) pe_int) pe_int) (pg_sub (pv 0) pe_int set_list))
      (pss_one (ps_ret (pe_op op_mod (pe_op op_mod (pe_op op_pow (pe_op op_fdiv (pe_ix (r := rIxL K) ix_list (pv 0) pe_int (fun _ _ => rfl)) pe_int) pe_int) pe_int) (pv 1)))))), ?_⟩
    refine ⟨_, rfl, _, _, _, _, rfl, rfl, SqL.of hb, atI_nat (j := 0) rfl, _, _, rfl, rfl, _, rfl, ite2 (fun e => ?_) (fun e => ?_)⟩
    · refine ⟨_, rfl, _, _, _, _, rfl, rfl, SqL.of hb, atI_nat (j := 0) rfl, _, rfl, _, _, rfl, rfl, m0, ?_⟩
      refine ⟨_, rfl, _, _, _, _, rfl, rfl, SqL.of hb, atI_nat (j := 0) rfl, _, rfl, _, _, rfl, rfl, ⟨m0, by omega⟩, _, rfl, _, _, _, _, rfl, rfl, hb, Evl.ixN_nat (j := 0) (by show 0 < 2; decide), ?_⟩
      refine ⟨_, rfl, ?_⟩
      exact q _ _ (Int.emod_nonneg _ (by omega)) (Int.emod_lt_of_pos _ m0) (Bx.drawn (Int.ediv_nonneg g0 (by omega)) s0 s1)
    · have t0 := Int.emod_nonneg (s * 69621 + 1234567) (show (2147483647 : Int) ≠ 0 by decide)
      have t1 := Int.emod_lt_of_pos (s * 69621 + 1234567) (show (0 : Int) < 2147483647 by decide)
      refine ⟨_, rfl, _, _, _, _, rfl, rfl, SqL.of hb, atI_nat (j := 1) rfl, _, _, rfl, rfl, .inr ⟨by decide, by decide⟩, _, _, rfl, rfl, _, _, rfl, rfl, (by show (0 : Int) < 2147483647; decide), _, rfl, _, _, _, _, rfl, rfl, hb, Evl.ixN_nat (j := 1) (by show 1 < 2; decide), ?_⟩
      refine ⟨_, rfl, _, _, _, _, rfl, rfl, SqL.of upd_same, atI_nat (j := 1) rfl, _, _, rfl, rfl, ⟨by decide, by decide⟩, _, _, rfl, rfl, ⟨by decide, by decide, ?_⟩, _, _, rfl, rfl, (by show (0 : Int) < 998244353; decide), _, rfl, _, _, rfl, rfl, m0, ?_⟩
      · omega
      · exact q _ _ (Int.emod_nonneg _ (by omega)) (Int.emod_lt_of_pos _ m0) (Bx.drawn g0 t0 (by omega))

/-! ### a row is drawn -/
def RM (b : Addr) (m : Nat) (up : List Nat) (way : Int) (H : Hp) : L2.St → Hp → Prop := fun σ H' => ∃ (p : Addr) (l : List Nat) (y5 y6 y7 y8 y9 : Option V), σ = [some (.ref b), some (.int (m : Int)), some (.str (sOf up)), some (.int way), some (.ref p), y5, y6, y7, y8, y9] ∧ H' p = some (.lst (cells l)) ∧ H p = none ∧ l.length = m ∧ Row l ∧ Bx b H H'
def spRow : Sp := fun vs H Q _ => ∃ (b : Addr) (m : Nat) (up : List Nat) (x : Int), vs = [.ref b, .int x, .str (sOf up)] ∧ x = m ∧ BagAt H b ∧ 1 ≤ m ∧ m ≤ 1000 ∧ up.length = m ∧ Row up ∧ ∀ l H', l.length = m → Row l → Bx b H H' → Q (.str (sOf l)) H'
theorem ok_row {A : Ad} (T : Txt w K mg base A) : FnOk P w K mg base CX0 2 A.a_row A.d_row P_row spRow := by
  have G_draw := ok_draw (P := P) (w := w) (base := base) T
  refine T.F_row.ok sc_row (fun vs H Q E h => ?_) (fun cdv Ar outer s H vs Q E hr h => ?_)
  · obtain ⟨b, m, up, x, rfl, _⟩ := h
    rfl
  · obtain ⟨b, m, up, _, rfl, rfl, hb, m0, m1, lu, ru, q⟩ := h
    refine ⟨_, (pss_cons (ps_set (i := 3) sc_row.nd rfl (Or.inl rfl) (pe_call G_draw (hr.mono (by decide)) (by rfl) T.g_draw T.F_draw.kp T.b_draw .nil pass0 (pa_cons (pv 0) (pa_cons pe_int pa_nil))))
      (pss_cons (ps_set (i := 4) sc_row.nd rfl (Or.inl rfl) (pe_op op_rep (pe_lst (pa_cons (pe_ix ix_str pe_str (pe_call G_draw (hr.mono (by decide)) (by rfl) T.g_draw T.F_draw.kp T.b_draw .nil pass0 (pa_cons (pv 0) (pa_cons pe_int pa_nil))) (fun _ _ => rfl)) pa_nil)) (pv 1)))
      (Evl.pss_cut (ps_if (pt_cmpR op_eq (pv 3) pe_int (nomark _))
      (pss_one (ps_setLc (i := 4) (own := [("_law_place", 8)]) (g := gName 8) (tt := tYes) (by rfl) sc_row.nd rfl rfl (sw_true rfl rfl rfl (by decide +kernel)) (pi_range1 (by rfl) T.z_range (pa_cons (pv 1) pa_nil)) (blkOk_by (own := [("_law_place", 8)]) (N := N_row) (sc := defScope s_row) (by decide +kernel)) (fun _ _ _ _ _ => pg_name (i := 8) sc_row.nd rfl (Or.inl rfl)) (fun _ _ _ _ _ => pts_nil) (fun s5 H5 C5 cl5 fp5 => (pe_ix ix_str pe_str (pe_call G_draw (hr.mono (by decide)) (by rfl) T.g_draw T.F_draw.kp T.b_draw .nil pass0 (pa_cons (pv 0) (pa_cons pe_int pa_nil))) (fun _ _ => rfl))))) pss_nil)
      (Evl.pss_cut (ps_if (pt_cmpR op_eq (pv 3) pe_int (nomark _))
      (pss_cons (ps_set (i := 5) sc_row.nd rfl (Or.inl rfl) (pe_op op_add pe_int (pe_call G_draw (hr.mono (by decide)) (by rfl) T.g_draw T.F_draw.kp T.b_draw .nil pass0 (pa_cons (pv 0) (pa_cons (pv 1) pa_nil)))))
      (pss_cons (ps_set (i := 6) sc_row.nd rfl (Or.inl rfl) (pe_call G_draw (hr.mono (by decide)) (by rfl) T.g_draw T.F_draw.kp T.b_draw .nil pass0 (pa_cons (pv 0) (pa_cons pe_int pa_nil))))
      (pss_cons (ps_set (i := 7) sc_row.nd rfl (Or.inl rfl) pe_int)
      (pss_one (ps_for PassesOwn.never rfl (pi_range1 (by rfl) T.z_range (pa_cons (pv 1) pa_nil)) (pg_name (i := 8) sc_row.nd rfl (Or.inl rfl))
      (Evl.pss_cut (ps_if (pt_cmpR op_eq (pv 7) pe_int (nomark _))
      (pss_cons (ps_set (i := 6) sc_row.nd rfl (Or.inl rfl) (pe_op op_sub pe_int (pv 6)))
      (pss_one (ps_set (i := 7) sc_row.nd rfl (Or.inl rfl) (pe_op op_add pe_int (pe_call G_draw (hr.mono (by decide)) (by rfl) T.g_draw T.F_draw.kp T.b_draw .nil pass0 (pa_cons (pv 0) (pa_cons (pv 5) pa_nil))))))) pss_nil)
      (pss_cons (ps_asg (pe_ix ix_str pe_str (pv 6) (fun _ _ => rfl)) (pg_sub (pv 4) (pv 8) set_list))
      (pss_one (ps_set (i := 7) sc_row.nd rfl (Or.inl rfl) (pe_op op_sub (pv 7) pe_int)))))))))) pss_nil)
      (Evl.pss_cut (ps_if (pt_cmpR op_eq (pv 3) pe_int (nomark _))
      (pss_cons (ps_set (i := 4) sc_row.nd rfl (Or.inl rfl) (pe_callTy (call_list_str rfl) (by rfl) T.z_list (by decide +kernel) (pa_cons (pv 2) pa_nil)))
      (pss_one (ps_for PassesOwn.never rfl (pi_range1 (by rfl) T.z_range (pa_cons pe_int pa_nil)) (pg_name (i := 9) sc_row.nd rfl (Or.inl rfl))
      (pss_one (ps_asg (pe_ix ix_str pe_str (pe_call G_draw (hr.mono (by decide)) (by rfl) T.g_draw T.F_draw.kp T.b_draw .nil pass0 (pa_cons (pv 0) (pa_cons pe_int pa_nil))) (fun _ _ => rfl)) (pg_sub (pv 4) (pe_call G_draw (hr.mono (by decide)) (by rfl) T.g_draw T.F_draw.kp T.b_draw .nil pass0 (pa_cons (pv 0) (pa_cons (pv 1) pa_nil))) set_list)))))) pss_nil)
      (pss_one (ps_ret (pe_join pe_str (pv 4))))))))), ?_⟩
    -- way, row_here
    refine ⟨_, rfl, b, 4, rfl, hb, by decide, by decide, fun way H1 w0 w1 bx1 => ?_⟩
    refine ⟨_, rfl, b, 2, rfl, bx1.1, by decide, by decide, fun d H2 d0 d1 bx2 => ⟨_, _, _, rfl, rfl, two_len, cell_at d0 d1, (by show 1 ≤ sizeLine; decide), fun p1 hp1 => ⟨_, rfl, _, _, _, rfl, rfl, upd_same, by omega, by omega, ?_, fun p hp => ?_⟩⟩⟩
    · show 1 * (m : Int).toNat ≤ sizeLine
      exact sz (by omega)
    have bx3 : Bx b H (upd H2 p1 (.lst [.str ⟨#[cellN d]⟩])) := (bx1.trans bx2).same (same_new hp1)
    have R0 : RM b m up way H [some (.ref b), some (.int (m : Int)), some (.str (sOf up)), some (.int way), some (.ref p), none, none, none, none, none] (upd (upd H2 p1 (.lst [.str ⟨#[cellN d]⟩])) p (.lst (List.replicate (m : Int).toNat [V.str ⟨#[cellN d]⟩]).flatten)) := by
      refine ⟨p, List.replicate m (cellN d), none, none, none, none, none, rfl, ?_, bx3.free hp, List.length_replicate, Row.rep (cellN_cell d), bx3.same (same_new hp)⟩
      rw [upd_same]
      exact congrArg (fun z => some (HO.lst z)) (rep_one m (cellN d))
    refine ⟨RM b m up way H, ?_, ?_⟩
    · -- way 0
      refine ⟨_, rfl, rfl, _, rfl, ite2 (fun e => ?_) (fun e => R0)⟩
      obtain ⟨_, _, _, _, _, _, _, _, _, _, _, _, bx4⟩ := R0
      refine ⟨_, rfl, _, rfl, by omega, by omega, fun D hD => lc_range (lo := 0) (n := m) (fun i H' => ∃ l, H' D = some (.lst (cells l)) ∧ l.length = i ∧ Row l ∧ Bx b H H') ⟨[], upd_same, rfl, Row.nil, bx4.same (same_new hD)⟩ ?_ ?_⟩
      · rintro i H' hi ⟨l, hl, ll, rl, bx5⟩
        have nD : D ≠ b := BagAt.ne bx4.1 hD
        have fD : H D = none := bx4.free hD
        refine ⟨rfl, _, rfl, b, 2, rfl, bx5.1, by decide, by decide, fun d2 H5 e0 e1 bx6 => ⟨_, _, _, rfl, rfl, two_len, cell_at e0 e1, _, bx6.2 _ _ nD hl, ?_, l ++ [cellN d2], ?_, ?_, rl.app (cellN_cell d2), (bx5.trans bx6).mut fD nD⟩⟩
        · rw [cells_len]
          exact szl (by omega)
        · rw [upd_same]
          exact congrArg (fun z => some (HO.lst z)) (cells_app l (cellN d2))
        · rw [List.length_append, ll]
          rfl
      · rintro H' ⟨l, hl, ll, rl, bx5⟩
        exact ⟨D, l, _, _, _, _, _, rfl, hl, bx4.free hD, ll, rl, bx5⟩
    · rintro σ H3 ⟨p, l, y5, y6, y7, y8, y9, rfl, hp, fp, ll, rl, bx⟩
      refine ⟨RM b m up way H, ?_, ?_⟩
      · -- way 1
        refine ⟨_, rfl, rfl, _, rfl, ite2 (fun e => ?_) (fun e => ⟨p, l, y5, y6, y7, y8, y9, rfl, hp, fp, ll, rl, bx⟩)⟩
        have nP : p ≠ b := BagAt.ne hb fp
        refine ⟨_, rfl, _, rfl, b, _, rfl, bx.1, by omega, by omega, fun most H4 o0 o1 bx4 => ⟨_, _, rfl, rfl, ?_⟩⟩
        refine ⟨_, rfl, b, 2, rfl, bx4.1, by decide, by decide, fun col H5 c0 c1 bx5 => ?_⟩
        refine ⟨_, rfl, _, rfl, by omega, by omega, for_range (lo := 0) (n := m) (fun i σ H' => ∃ (l : List Nat) (c left : Int) (y8 : Option V), σ = [some (.ref b), some (.int (m : Int)), some (.str (sOf up)), some (.int way), some (.ref p), some (.int (1 + most)), some (.int c), some (.int left), y8, y9] ∧ 0 ≤ c ∧ c < 2 ∧ H' p = some (.lst (cells l)) ∧ l.length = m ∧ Row l ∧ Bx b H H')
          ⟨l, col, 0, y8, rfl, c0, c1, bx5.2 _ _ nP (bx4.2 _ _ nP hp), ll, rl, (bx.trans bx4).trans bx5⟩ ?_ ?_⟩
        · rintro i σ H' hi ⟨l, c, left, y8, rfl, c0, c1, hp, ll, rl, bx⟩
          refine ⟨fun σ H' => ∃ (c left : Int) (y8 : Option V), σ = [some (.ref b), some (.int (m : Int)), some (.str (sOf up)), some (.int way), some (.ref p), some (.int (1 + most)), some (.int c), some (.int left), some (.int (0 + (i : Int))), y9] ∧ 0 ≤ c ∧ c < 2 ∧ H' p = some (.lst (cells l)) ∧ Bx b H H', ?_, ?_⟩
          · refine ⟨_, rfl, rfl, _, rfl, ite2 (fun e => ?_) (fun e => ⟨c, left, y8, rfl, c0, c1, hp, bx⟩)⟩
            refine ⟨_, rfl, _, _, rfl, rfl, ?_⟩
            refine ⟨_, rfl, _, rfl, b, _, rfl, bx.1, by omega, by omega, fun d H6 e0 e1 bx6 => ⟨_, _, rfl, rfl, ?_⟩⟩
            exact ⟨1 - c, 1 + d, y8, rfl, by omega, by omega, bx6.2 _ _ nP hp, bx.trans bx6⟩
          · rintro σ H' ⟨c, left, _, rfl, c0, c1, hp, bx⟩
            refine ⟨_, rfl, _, _, _, rfl, rfl, two_len, cell_at c0 c1, _, rfl, _, rfl, _, _, _, _, rfl, rfl, hp, (by rw [Int.zero_add]; exact Evl.ixN_nat (by rw [cells_len]; omega)), ?_⟩
            refine ⟨_, rfl, _, _, rfl, rfl, ?_⟩
            refine ⟨l.set i (cellN c), c, left - 1, some (.int (0 + (i : Int))), rfl, c0, c1, ?_, ?_, rl.set (cellN_cell c), bx.mut fp nP⟩
            · rw [upd_same]
              exact congrArg (fun z => some (HO.lst z)) (cells_set l i (cellN c))
            · rw [List.length_set]
              exact ll
        · rintro σ H' ⟨l, c, left, y8, rfl, c0, c1, hp, ll, rl, bx⟩
          exact ⟨p, l, _, _, _, _, _, rfl, hp, fp, ll, rl, bx⟩
      · rintro σ H3 ⟨p, l, y5, y6, y7, y8, y9, rfl, hp, fp, ll, rl, bx⟩
        refine ⟨RM b m up way H, ?_, ?_⟩
        · -- way 2
          refine ⟨_, rfl, rfl, _, rfl, ite2 (fun e => ?_) (fun e => ⟨p, l, y5, y6, y7, y8, y9, rfl, hp, fp, ll, rl, bx⟩)⟩
          refine ⟨_, rfl, up, rfl, by omega, fun p2 hp2 => ?_⟩
          have f2 : H p2 = none := bx.free hp2
          have n2 : p2 ≠ b := BagAt.ne bx.1 hp2
          refine ⟨_, rfl, by decide, by decide, for_range (lo := 0) (n := 3) (fun i σ H' => ∃ (l : List Nat) (y9 : Option V), σ = [some (.ref b), some (.int (m : Int)), some (.str (sOf up)), some (.int way), some (.ref p2), y5, y6, y7, y8, y9] ∧ H' p2 = some (.lst (cells l)) ∧ l.length = m ∧ Row l ∧ Bx b H H')
            ⟨up, y9, rfl, upd_same, lu, ru, bx.same (same_new hp2)⟩ ?_ ?_⟩
          · rintro i σ H' hi ⟨l, y9, rfl, hp, ll, rl, bx⟩
            refine ⟨_, rfl, b, 2, rfl, bx.1, by decide, by decide, fun d H5 d0 d1 bx5 => ⟨_, _, _, rfl, rfl, two_len, cell_at d0 d1, _, rfl, _, rfl, _, rfl, b, _, rfl, bx5.1, by omega, by omega, fun j H6 j0 j1 bx6 => ?_⟩⟩
            obtain ⟨k, rfl⟩ := Int.eq_ofNat_of_zero_le j0
            refine ⟨_, _, _, k, rfl, rfl, bx6.2 _ _ n2 (bx5.2 _ _ n2 hp), Evl.ixN_nat (by rw [cells_len]; omega), ?_⟩
            refine ⟨l.set k (cellN d), _, rfl, ?_, ?_, rl.set (cellN_cell d), ((bx.trans bx5).trans bx6).mut f2 n2⟩
            · rw [upd_same]
              exact congrArg (fun z => some (HO.lst z)) (cells_set l k (cellN d))
            · rw [List.length_set]
              exact ll
          · rintro σ H' ⟨l, y9, rfl, hp, ll, rl, bx⟩
            exact ⟨p2, l, _, _, _, _, _, rfl, hp, f2, ll, rl, bx⟩
        · rintro σ H3 ⟨p, l, y5, y6, y7, y8, y9, rfl, hp, fp, ll, rl, bx⟩
          refine ⟨⟨_, rfl⟩, _, rfl, _, _, l.map fun c => sOf [c], rfl, rfl, .inl (SqL.of (by rw [← cells_strs]; exact hp)), join_size (by omega), ?_⟩
          rw [join_cells]
          exact q l H3 ll rl bx

def iV (k : Nat) : V := .int (k : Int)
def spOther : Sp := fun vs H Q _ => ∃ (c : Nat), vs = [.str (sOf [c])] ∧ Q (.str (sOf [oth c])) H
theorem ok_other_cell {A : Ad} (T : Txt w K mg base A) : FnOk P w K mg base CX0 1 A.a_other_cell A.d_other_cell P_other_cell spOther := by
  refine T.F_other_cell.ok sc_other_cell (fun vs H Q E h => ?_) (fun cdv Ar outer s H vs Q E hr h => ?_)
  · obtain ⟨c, rfl, _⟩ := h
    rfl
  · obtain ⟨c, rfl, q⟩ := h
    refine ⟨_, (pss_one (ps_ret (pe_ifExp (pt_cmpR op_eq (pv 0) (pe_glob (v := .str (Str.ofString ".")) (by rfl) T.c_LIGHT ⟨_, rfl⟩) (nomark _)) (pe_glob (v := .str (Str.ofString "#")) (by rfl) T.c_DARK ⟨_, rfl⟩) (pe_glob (v := .str (Str.ofString ".")) (by rfl) T.c_LIGHT ⟨_, rfl⟩)))), ?_⟩
    unfold oth at q
    have key : decide (V.str (sOf [c]) = V.str (Str.ofString ".")) = decide (c = 46) := decide_eq_decide.mpr ⟨fun h => by
      have h2 : sOf [c] = sOf [46] := V.str.inj h
      have := sOf_inj h2
      simp_all, fun h => by rw [h]; rfl⟩
    refine ⟨_, rfl, rfl, _, rfl, ite2 (fun e => ?_) (fun e => ?_)⟩
    · rw [key] at e
      rw [if_pos (of_decide_eq_true e)] at q
      exact q
    · rw [key] at e
      rw [if_neg (fun z => e (decide_eq_true z))] at q
      exact q

/-! ### words by lengths -/
abbrev TT (p : Addr) : List (Addr × Str) := [(p, (("making_order" : Str) ++ ".<locals>.") ++ "<lambda>")]
theorem extN_of {H H' : Hp} (e : Same H H') : LamX.ExtN H H' := fun b o h _ => e b o h
theorem tabs_same {T : List (Addr × Str)} {H H' : Hp} (h : LamX.Tabs T H) (e : Same H H') : LamX.Tabs T H' := h.ext e
def spOrder (p : Addr) : Sp := fun vs H Q _ => ∃ (a : Addr) (ns : List Int), vs = [.ref a] ∧ LamX.Tabs (TT p) H ∧ H a = some (.lst (ns.map V.int)) ∧ ns.length ≤ 1000 ∧
  ∀ q H', LamX.ExtN H H' → LamX.Tabs (TT p) H' → H' q = none → Q (.ref q) (upd H' q (.lst ((orderOf ns).map fun (i : Nat) => V.int (i : Int))))
theorem ok_making_order {A : Ad} (T : Txt w K mg base A) : FnOk P w K mg base CX0 1 A.a_making_order A.d_making_order P_making_order (spOrder A.p_making_order) := by
  obtain ⟨oc, od, kV, doc, pm, an, ct, osl, lk, hcd⟩ := T.L_making_order
  obtain ⟨oc2, od2, kV2, doc2, pm2, an2, cdv2, ct2, osl2, efd, lk2, hcd2⟩ := T.F_making_order.ex
  have e2 := lk.symm.trans lk2
  have efd2 : PySem.W.fnOf "making_order" "making_order" (defArgs s_making_order) (defBody s_making_order) (defScope s_making_order) .none kV doc pm an (.ref A.k_making_order) ct = A.d_making_order := by
    injection e2 with e2
    injection e2 with _ _ e2 _
    injection e2
  rw [← efd2]
  refine fn_of lk hcd sc_making_order (fun vs H Q E h => ?_) (fun Ar outer s H vs Q E hr h => ?_)
  · obtain ⟨a, ns, rfl, _⟩ := h
    rfl
  · obtain ⟨a, ns, rfl, hT, ha, hl, q⟩ := h
    refine ⟨_, pss_one (ps_ret (pe_sortLam (T := TT A.p_making_order) (iL := 0) (by rfl) T.z_sorted (pa_cons (pe_callTy cr_range1 (by rfl) T.z_range (by decide +kernel) (pa_cons (pe_callB (r := fun xs H Q => ∃ p ys, xs = [.ref p] ∧ (SqL K H p ys ∨ SqT K H p ys) ∧ Q (.int ys.length) H) call_len_seq (by rfl) T.z_len PySem.boot_len (pa_cons (pv 0) pa_nil)) pa_nil)) pa_nil)
      T.TB_making_order rfl (List.mem_singleton.mpr rfl) (fun p hp _ => by rw [List.mem_singleton.mp hp]; rfl) hr rfl rfl rfl rfl rfl rfl rfl (by decide +kernel) rfl (fun _ _ _ _ _ _ => rfl))), ?_⟩
    refine ⟨_, rfl, a, _, rfl, .inl (SqL.of ha), _, rfl, fun r hr2 => ?_⟩
    have s1 : Same H (upd H r (.rng 0 ((ns.map V.int).length : Int))) := same_new hr2
    refine ⟨r, a, ns, rfl, by rw [upd_same, List.length_map], tabs_same hT s1, rfl, s1 _ _ ha, hl, fun p H2 eN T2 fr => ?_⟩
    exact q p H2 (fun b o hb n => eN b o (s1 _ _ hb) n) T2 fr
theorem cutS_to (l : List Nat) (b : Nat) (hb : b ≤ l.length) : cutS (sOf l) none (some (b : Int)) = sOf (l.take b) := by
  unfold cutS
  rw [HT.sIx_nat, sOf_len, sOf_list, Nat.min_eq_left hb, HT.sIx_none]
  show sOf ((l.drop 0).take (b - 0)) = _
  rw [List.drop_zero, Nat.sub_zero]
theorem rfind_one {w : List Nat} {i : Nat} (h : lastOne w = some i) : Txt.rfind (sOf w) (Str.ofString "1") = (i : Int) := by
  have at_iff : ∀ j, StrLaws.At (sOf w) ⟨#[49]⟩ (sOf w).length j ↔ w[j]? = some 49 := fun j => by
    have := StrLaws.subAt_one (sOf w) 49 j
    rw [sOf_list] at this
    exact this
  have hs := lastOne_spec w
  rcases hs with ⟨e, _⟩ | ⟨i2, e, h1, h2⟩
  · rw [e] at h
    cases h
  · rw [e] at h
    cases h
    show (match Builtin.Str.lastOccurrence (sOf w) ⟨#[49]⟩ 0 (sOf w).length with | some i => (i : Int) | none => -1) = (i : Int)
    rcases StrLaws.last_spec (sOf w) ⟨#[49]⟩ with ⟨_, n⟩ | ⟨j, ej, a1, a2⟩
    · exact absurd ((at_iff i).mpr h1) (n i)
    · rw [ej]
      have h3 := (at_iff j).mp a1
      have : i = j := by
        rcases Nat.lt_trichotomy i j with z | z | z
        · exact absurd h3 (h2 j z)
        · exact z
        · exact absurd ((at_iff i).mpr h1) (a2 i z)
      rw [this]
def spLess : Sp := fun vs H Q _ => ∃ (w : List Nat) (i : Nat), vs = [.str (sOf w)] ∧ lastOne w = some i ∧ w.length ≤ 1000 ∧ Q (.str (sOf (lessW w))) H
theorem lastOne_lt {w : List Nat} {i : Nat} (h : lastOne w = some i) : i < w.length := by
  rcases lastOne_spec w with ⟨e, _⟩ | ⟨i2, e, h1, _⟩
  · rw [e] at h
    cases h
  · rw [e] at h
    cases h
    exact (List.getElem?_eq_some_iff.mp h1).1
theorem lessW_len {w : List Nat} {i : Nat} (h : lastOne w = some i) : (lessW w).length = w.length := by
  have := lastOne_lt h
  unfold lessW
  rw [h]
  show (w.take i ++ 48 :: List.replicate (w.length - i - 1) 49).length = w.length
  rw [List.length_append, List.length_cons, List.length_replicate, List.length_take]
  omega
theorem ok_one_less {A : Ad} (T : Txt w K mg base A) : FnOk P w K mg base CX0 1 A.a_one_less A.d_one_less P_one_less spLess := by
  refine T.F_one_less.ok sc_one_less (fun vs H Q E h => ?_) (fun cdv Ar outer s H vs Q E hr h => ?_)
  · obtain ⟨w, i, rfl, _⟩ := h
    rfl
  · obtain ⟨wd, i, rfl, hi, lw, q⟩ := h
    refine ⟨_, (pss_cons (ps_set (i := 1) sc_one_less.nd rfl (Or.inl rfl) (pe_bm PySem.F.plainAttrs_str PySem.F.slot_str_rfind PySem.F.type_str_rfind mt_rfind (pv 0) (pa_cons pe_str pa_nil)))
      (pss_cons (ps_if (pt_cmpR op_lt (pv 1) pe_int (nomark _))
      (pss_one ps_never) pss_nil)
      (pss_one (ps_ret (pe_op op_add_str (pe_op op_add_str (pe_slice sl_str (pv 0) po_none (po_some (pv 1))) pe_str) (pe_op op_mul_str pe_str (pe_op op_sub (pe_op op_sub (pe_callB call_len_str (by rfl) T.z_len PySem.boot_len (pa_cons (pv 0) pa_nil)) (pv 1)) pe_int))))))), ?_⟩
    have hl : (sOf wd).length ≤ sizeLine := by
      rw [sOf_len]
      exact sz (by omega)
    have li := lastOne_lt hi
    have er := rfind_one hi
    refine ⟨_, rfl, rfl, _, _, rfl, rfl, ?_⟩
    rw [er]
    refine ⟨_, rfl, _, _, rfl, rfl, _, rfl, ite2 (fun e => ?_) (fun e => ?_)⟩
    · have := of_decide_eq_true e
      omega
    · refine ⟨_, rfl, _, rfl, _, rfl, _, rfl, hl, _, _, rfl, rfl, ?_, _, rfl, _, rfl, hl, _, rfl, _, _, rfl, rfl, _, _, rfl, rfl, 49, _, rfl, rfl, ⟨by rw [sOf_len]; omega, by rw [sOf_len]; omega⟩, _, _, rfl, rfl, ?_, ?_⟩
      · rw [cutS_to wd i (by omega), sOf_len, List.length_take]
        exact sz (by show min i wd.length + 1 ≤ 100000; omega)
      · rw [cutS_to wd i (by omega), show (Str.ofString "0") = sOf [48] from rfl, sOf_app, sOf_len, sOf_len, List.length_append, List.length_take, List.length_replicate, sOf_len]
        exact sz (by show min i wd.length + 1 + _ ≤ 100000; omega)
      · rw [cutS_to wd i (by omega), show (Str.ofString "0") = sOf [48] from rfl, sOf_app, sOf_app]
        have e3 : wd.take i ++ [48] ++ List.replicate (((sOf wd).length : Int) - (i : Int) - 1).toNat 49 = lessW wd := by
          unfold lessW
          rw [hi, sOf_len, List.append_assoc]
          show wd.take i ++ 48 :: List.replicate _ 49 = wd.take i ++ 48 :: List.replicate _ 49
          rw [show ((wd.length : Int) - (i : Int) - 1).toNat = wd.length - i - 1 by omega]
        rw [e3]
        exact q
def nvs (ns : List Nat) : List V := (iv ns).map V.int
theorem nvs_at {ns : List Nat} {p : Nat} (h : p < ns.length) : (nvs ns)[p]? = some (.int ((ns.getD p 0 : Nat) : Int)) := by
  unfold nvs iv
  rw [List.map_map, List.getElem?_map, List.getD_eq_getElem?_getD, List.getElem?_eq_getElem h]
  rfl
theorem rep_nil (n : Nat) : (List.replicate n [V.str (Str.ofString "")]).flatten = (List.replicate n ([] : List Nat)).map sV := by
  induction n with
  | zero => rfl
  | succ k ih =>
    rw [List.replicate_succ, List.flatten_cons, ih, List.replicate_succ]
    rfl
def ahV (o : Option (List Nat)) : V := match o with
  | none => .non
  | some w => .str (sOf w)
theorem tabs_but {T : List (Addr × Str)} {H H' : Hp} {q : Addr} {xs : List V} (h : LamX.Tabs T H) (hq : H q = some (.lst xs)) (e : ∀ b o, b ≠ q → H b = some o → H' b = some o) : LamX.Tabs T H' := fun p hp => by
  obtain ⟨ps, h1, h2, h3⟩ := h p hp
  refine ⟨ps, e _ _ (fun z => ?_) h1, h2, fun pos cv hc => ?_⟩
  · rw [z, hq] at h1
    cases h1
  · obtain ⟨c, e1, e2⟩ := h3 pos cv hc
    refine ⟨c, e1, e _ _ (fun z => ?_) e2⟩
    rw [z, hq] at e2
    unfold LamX.CodeO at e2
    cases e2
def spWords (p : Addr) : Sp := fun vs H Q _ => ∃ (a : Addr) (ns : List Nat), vs = [.ref a] ∧ LamX.Tabs (TT p) H ∧ H a = some (.lst (nvs ns)) ∧ ns.length ≤ 100 ∧ (∀ n ∈ ns, n ≤ 12) ∧ okW ns (buckets (fun i => (iv ns).getD i 0) ns.length) (startW ns) = true ∧
  ∀ q H', LamX.ExtN H H' → LamX.Tabs (TT p) H' → H q = none → H' q = some (.lst ((wordsOf ns).map sV)) → Q (.ref q) H'
theorem ok_words_by {A : Ad} (T : Txt w K mg base A) : FnOk P w K mg base CX0 2 A.a_words_by A.d_words_by P_words_by (spWords A.p_making_order) := by
  have G_making_order := ok_making_order (P := P) (w := w) (base := base) T
  have G_one_less := ok_one_less (P := P) (w := w) (base := base) T
  refine T.F_words_by.ok sc_words_by (fun vs H Q E h => ?_) (fun cdv Ar outer s H vs Q E hr h => ?_)
  · obtain ⟨a, ns, rfl, _⟩ := h
    rfl
  · obtain ⟨a, ns, rfl, hT, ha, ln, hn, ok, qq⟩ := h
    refine ⟨_, (pss_cons (ps_set (i := 1) sc_words_by.nd rfl (Or.inl rfl) (pe_op op_rep (pe_lst (pa_cons pe_str pa_nil)) (pe_callB (r := fun xs H Q => ∃ p ys, xs = [.ref p] ∧ (SqL K H p ys ∨ SqT K H p ys) ∧ Q (.int ys.length) H) call_len_seq (by rfl) T.z_len PySem.boot_len (pa_cons (pv 0) pa_nil))))
      (pss_cons (ps_set (i := 2) sc_words_by.nd rfl (Or.inl rfl) pe_non)
      (pss_cons (ps_for PassesOwn.never rfl (pi_list (pe_call G_making_order (hr.mono (by decide)) (by rfl) T.g_making_order T.F_making_order.kp T.b_making_order .nil pass0 (pa_cons (pv 0) pa_nil))) (pg_name (i := 3) sc_words_by.nd rfl (Or.inl rfl))
      (pss_cons (ps_set (i := 4) sc_words_by.nd rfl (Or.inl rfl) (pe_ifExp (pt_cmpR op_isN (pv 2) pe_non (nomark _)) pe_str (pe_call G_one_less (hr.mono (by decide)) (by rfl) T.g_one_less T.F_one_less.kp T.b_one_less .nil pass0 (pa_cons (pv 2) pa_nil))))
      (pss_cons (ps_set (i := 2) sc_words_by.nd rfl (Or.inl rfl) (pe_bm PySem.F.plainAttrs_str PySem.F.slot_str_ljust PySem.F.type_str_ljust mt_ljustF (pv 4) (pa_cons (pe_ix (r := rIxL K) ix_list (pv 0) (pv 3) (fun _ _ => rfl)) (pa_cons pe_str pa_nil))))
      (pss_one (ps_asg (pv 2) (pg_sub (pv 1) (pv 3) set_list))))))
      (pss_one (ps_ret (pv 1)))))), ?_⟩
    refine ⟨(by show 1 ≤ sizeLine; decide), fun p1 hp1 => ?_⟩
    have s1 : Same H (upd H p1 (.lst [.str (Str.ofString "")])) := same_new hp1
    have nl : (nvs ns).length = ns.length := by unfold nvs; rw [List.length_map, iv_len]
    refine ⟨_, rfl, a, _, rfl, .inl (SqL.of (s1 _ _ ha)), _, _, _, rfl, rfl, upd_same, by omega, by omega, by rw [nl]; show 1 * _ ≤ sizeLine; exact sz (by omega), fun q hq => ?_⟩
    have s2 := s1.trans (same_new (o := .lst (List.replicate ((nvs ns).length : Int).toNat [V.str (Str.ofString "")]).flatten) hq)
    refine ⟨_, rfl, a, iv ns, rfl, tabs_same hT s2, s2 _ _ ha, by rw [iv_len]; omega, fun o H3 eN T3 fr => ?_⟩
    have hq3 : H3 q = some (.lst ((startW ns).1.map sV)) := by
      have := eN q _ upd_same (fun ps z => by cases z)
      rw [this]
      show some (HO.lst (List.replicate ((nvs ns).length : Int).toNat [V.str (Str.ofString "")]).flatten) = some (HO.lst ((List.replicate ns.length ([] : List Nat)).map sV))
      rw [rep_nil, nl]
      rfl
    have fq : H q = none := by
      cases z : H q with
      | none => rfl
      | some u =>
        rw [s1 _ _ z] at hq
        cases hq
    have nqo : q ≠ o := ne_of_none hq3 fr
    rw [order_iv hn]
    generalize hord : buckets (fun i => (iv ns).getD i 0) ns.length = ord at *
    have ha3 : H3 a = some (.lst (nvs ns)) := eN a _ (s2 _ _ ha) (fun ps z => by cases z)
    have nao : a ≠ o := ne_of_none ha3 fr
    have naq : a ≠ q := ne_of_none ha fq
    refine ⟨o, rfl, ⟨_, SqL.of upd_same⟩, for_list (K := K) (a := o) (xs := ord.map fun (i : Nat) => V.int (i : Int)) (fun i σ H' => ∃ y3 y4, σ = [some (.ref a), some (.ref q), some (ahV ((ord.take i).foldl (stepW ns) (startW ns)).2), y3, y4] ∧ H' q = some (.lst (((ord.take i).foldl (stepW ns) (startW ns)).1.map sV)) ∧ ∀ b u, b ≠ q → upd H3 o (.lst (ord.map fun (i : Nat) => V.int (i : Int))) b = some u → H' b = some u)
      ⟨none, none, rfl, by rw [upd_ne nqo]; exact hq3, fun b u _ h => h⟩ (fun i σ H' _ ⟨_, _, _, _, ke⟩ => SqL.of (ke o _ nqo.symm upd_same)) ?_ ?_⟩
    · rintro i x σ H' hx ⟨y3, y4, rfl, hq', ke⟩
      rw [List.getElem?_map] at hx
      obtain ⟨p, hp, rfl⟩ : ∃ p, ord[i]? = some p ∧ V.int (p : Int) = x := by
        cases e : ord[i]? with
        | none =>
          rw [e] at hx
          cases hx
        | some p =>
          rw [e] at hx
          exact ⟨p, rfl, Option.some.inj hx⟩
      have pn : p < ns.length := by
        have := List.mem_of_getElem? hp
        rw [← hord] at this
        exact mem_buckets this
      have lst := lenW_fold hn (ord.take i) _ (lenW_start ns)
      have ok1 := okW_at ord (startW ns) i p hp ok
      have fst : (ord.take (i + 1)).foldl (stepW ns) (startW ns) = stepW ns ((ord.take i).foldl (stepW ns) (startW ns)) p := by
        rw [take_more ord i p hp, List.foldl_append]
        rfl
      have wl : ((ord.take i).foldl (stepW ns) (startW ns)).1.length = ns.length := by
        rw [words_len]
        exact List.length_replicate
      have ha' : H' a = some (.lst (nvs ns)) := ke a _ naq (by rw [upd_ne nao]; exact ha3)
      have atl : atI (nvs ns) (p : Int) = some (.int ((ns.getD p 0 : Nat) : Int)) := atI_nat (nvs_at pn)
      have hg : ns.getD p 0 ≤ 12 := by
        rw [List.getD_eq_getElem?_getD, List.getElem?_eq_getElem pn]
        exact hn _ (List.getElem_mem pn)
      generalize hst : (ord.take i).foldl (stepW ns) (startW ns) = st at *
      cases h2 : st.2 with
      | none =>
        have e1 : st.1.set p ([] ++ List.replicate (((ns.getD p 0 : Nat) : Int).toNat - ([] : List Nat).length) 49) = (stepW ns st p).1 := by
          unfold stepW
          rw [h2]
          rfl
        have e2 : (stepW ns st p).2 = some ([] ++ List.replicate (ns.getD p 0 - ([] : List Nat).length) 49) := by
          unfold stepW
          rw [h2]
        refine ⟨_, rfl, rfl, _, rfl, ?_⟩
        refine ⟨_, rfl, rfl, _, rfl, _, rfl, _, _, _, .int ((ns.getD p 0 : Nat) : Int), rfl, rfl, SqL.of ha', atl, ([] : List Nat), _, 49, rfl, rfl, ⟨by omega, by omega⟩, ?_⟩
        refine ⟨_, rfl, _, rfl, _, rfl, q, _, _, p, rfl, rfl, hq', Evl.ixN_nat (by rw [List.length_map, wl]; omega), ?_⟩
        refine ⟨some (.int (p : Int)), some (.str (sOf ([] : List Nat))), ?_, ?_, fun b u nb hb => by rw [upd_ne nb]; exact ke b u nb hb⟩
        · rw [fst, e2]
          rfl
        · rw [fst, upd_same]
          show some (HO.lst ((st.1.map sV).set p (sV (([] : List Nat) ++ List.replicate (((ns.getD p 0 : Nat) : Int).toNat - (([] : List Nat)).length) 49)))) = _
          rw [← List.map_set, e1]
      | some wd =>
        obtain ⟨j, hj⟩ := ok1 wd h2
        have lw := lst wd h2
        have ll := lessW_len hj
        have e1 : st.1.set p (lessW wd ++ List.replicate (((ns.getD p 0 : Nat) : Int).toNat - (lessW wd).length) 49) = (stepW ns st p).1 := by
          unfold stepW
          rw [h2]
          rfl
        have e2 : (stepW ns st p).2 = some (lessW wd ++ List.replicate (ns.getD p 0 - (lessW wd).length) 49) := by
          unfold stepW
          rw [h2]
        refine ⟨_, rfl, rfl, _, rfl, _, rfl, wd, j, rfl, hj, by omega, ?_⟩
        refine ⟨_, rfl, rfl, _, rfl, _, rfl, _, _, _, .int ((ns.getD p 0 : Nat) : Int), rfl, rfl, SqL.of ha', atl, (lessW wd), _, 49, rfl, rfl, ⟨by omega, by omega⟩, ?_⟩
        refine ⟨_, rfl, _, rfl, _, rfl, q, _, _, p, rfl, rfl, hq', Evl.ixN_nat (by rw [List.length_map, wl]; omega), ?_⟩
        refine ⟨some (.int (p : Int)), some (.str (sOf (lessW wd))), ?_, ?_, fun b u nb hb => by rw [upd_ne nb]; exact ke b u nb hb⟩
        · rw [fst, e2]
          rfl
        · rw [fst, upd_same]
          show some (HO.lst ((st.1.map sV).set p (sV ((lessW wd) ++ List.replicate (((ns.getD p 0 : Nat) : Int).toNat - ((lessW wd)).length) 49)))) = _
          rw [← List.map_set, e1]
    · rintro σ H' ⟨y3, y4, rfl, hq', ke⟩
      rw [List.length_map, List.take_length] at hq'
      have hw : (ord.foldl (stepW ns) (startW ns)).1 = wordsOf ns := by
        unfold Fp.wordsOf
        rw [hord]
      rw [hw] at hq'
      refine ⟨_, rfl, qq q H' (fun b u hb nt => ?_) ?_ fq hq'⟩
      · have nbq : b ≠ q := ne_of_none hb fq
        have h3 := eN b u (s2 _ _ hb) nt
        exact ke b u nbq (by rw [upd_ne (ne_of_none h3 fr)]; exact h3)
      · refine tabs_but (q := q) (H := upd H3 o (.lst (ord.map fun (i : Nat) => V.int (i : Int)))) (tabs_same T3 (same_new fr)) (by rw [upd_ne nqo]; exact hq3) ke

def spLawLess : Sp := fun vs H Q _ => ∃ w : List Nat, vs = [.str (sOf w)] ∧ w.length ≤ 20 ∧ Q (ahV (lawLess w)) H
theorem bits_at {n : Nat} : atI (Str.ofString "01").cps.toList (((n : Nat) : Int) % 2) = some (48 + n % 2) := by
  have : n % 2 = 0 ∨ n % 2 = 1 := by omega
  rcases this with h | h
  · rw [h, show ((n : Nat) : Int) % 2 = 0 by omega]
    rfl
  · rw [h, show ((n : Nat) : Int) % 2 = 1 by omega]
    rfl
theorem one_eq (c : Nat) : decide (V.str ⟨#[c]⟩ = V.str (Str.ofString "1")) = decide (c = 49) := by
  apply decide_eq_decide.mpr
  exact ⟨fun h => by
    have h2 : sOf [c] = sOf [49] := V.str.inj h
    have := sOf_inj h2
    simp_all, fun h => by rw [h]; rfl⟩
theorem ok_less {A : Ad} (T : Txt w K mg base A) : FnOk P w K mg base CX0 1 A.a_less A.d_less P_less spLawLess := by
  refine T.F_less.ok sc_less (fun vs H Q E h => ?_) (fun cdv Ar outer s H vs Q E hr h => ?_)
  · obtain ⟨wd, rfl, _⟩ := h
    rfl
  · obtain ⟨wd, rfl, lw, q⟩ := h
    refine ⟨_, (pss_cons (ps_set (i := 1) sc_less.nd rfl (Or.inl rfl) pe_int)
      (pss_cons (ps_for PassesOwn.never rfl (pi_str (pv 0)) (pg_name (i := 2) sc_less.nd rfl (Or.inl rfl))
      (pss_one (ps_set (i := 1) sc_less.nd rfl (Or.inl rfl) (pe_op op_add (pe_op op_mul pe_int (pv 1)) (pe_callTy call_int1 (by rfl) T.z_int (by decide +kernel) (pa_cons (pe_cmpR op_eq (pv 2) pe_str (nomark _)) pa_nil))))))
      (pss_cons (ps_if (pt_cmpR op_eq (pv 1) pe_int (nomark _))
      (pss_one (ps_ret pe_non)) pss_nil)
      (pss_cons (ps_set (i := 1) sc_less.nd rfl (Or.inl rfl) (pe_op op_sub (pv 1) pe_int))
      (pss_cons (ps_set (i := 3) sc_less.nd rfl (Or.inl rfl) pe_str)
      (pss_cons (ps_for PassesOwn.never rfl (pi_str (pv 0)) (pg_name (i := 2) sc_less.nd rfl (Or.inl rfl))
      (pss_cons (ps_set (i := 3) sc_less.nd rfl (Or.inl rfl) (pe_op op_add_str (pe_ix ix_str pe_str (pe_op op_mod (pv 1) pe_int) (fun _ _ => rfl)) (pv 3)))
      (pss_one (ps_set (i := 1) sc_less.nd rfl (Or.inl rfl) (pe_op op_fdiv (pv 1) pe_int)))))
      (pss_one (ps_ret (pv 3))))))))), ?_⟩
    have sz1 : (sOf wd).cps.size = wd.length := by simp [sOf]
    refine ⟨_, rfl, _, rfl, for_it (walk_str (z := sOf wd)) (fun i σ H' => ∃ y2, σ = [some (.str (sOf wd)), some (.int ((bitsVal (wd.take i) : Nat) : Int)), y2, none] ∧ H' = H) ⟨none, rfl, rfl⟩ (fun _ _ _ _ _ => trivial) ?_ ?_⟩
    · rintro i x σ H1 H2 hi ⟨y2, rfl, rfl⟩ ⟨rfl, c, hc, rfl⟩
      have hc' : wd[i]? = some c := by simpa [sOf] using hc
      refine ⟨_, rfl, _, _, rfl, rfl, .inl ⟨by decide, by decide⟩, _, rfl, rfl, .inr ⟨_, rfl, _, _, rfl, rfl, ?_⟩⟩
      refine ⟨some (.str ⟨#[c]⟩), ?_, rfl⟩
      rw [one_eq, take_more wd i c hc']
      have e : bitsVal (wd.take i ++ [c]) = 2 * bitsVal (wd.take i) + if c = 49 then 1 else 0 := by
        unfold bitsVal
        rw [List.foldl_append]
        rfl
      rw [e]
      by_cases h : c = 49
      · rw [if_pos h, decide_eq_true h]
        rfl
      · rw [if_neg h, decide_eq_false h]
        rfl
    · rintro σ H1 ⟨y2, rfl, rfl⟩
      rw [sz1, List.take_length]
      refine ⟨_, rfl, rfl, _, rfl, ite2 (fun e => ?_) (fun e => ?_)⟩
      · have e0 : bitsVal wd = 0 := by
          have := V.int.inj (of_decide_eq_true e)
          omega
        unfold lawLess at q
        rw [if_pos e0] at q
        exact q
      · have e0 : ¬ bitsVal wd = 0 := fun z => e (decide_eq_true (by rw [z]; rfl))
        unfold lawLess at q
        rw [if_neg e0] at q
        refine ⟨_, rfl, _, _, rfl, rfl, ?_⟩
        refine ⟨_, rfl, _, rfl, for_it (walk_str (z := sOf wd)) (fun i σ H' => ∃ (n : Nat) (acc : List Nat) (y2 : Option V), σ = [some (.str (sOf wd)), some (.int (n : Int)), y2, some (.str (sOf acc))] ∧ H' = H1 ∧ bitsOf (wd.length - i) n acc = bitsOf wd.length (bitsVal wd - 1) [] ∧ acc.length = i) ⟨bitsVal wd - 1, [], y2, ?_, rfl, rfl, rfl⟩ (fun _ _ _ _ _ => trivial) ?_ ?_⟩
        · rw [show ((bitsVal wd - 1 : Nat) : Int) = ((bitsVal wd : Nat) : Int) - 1 by omega]
          rfl
        · rintro i x σ H2 H3 hi ⟨n, acc, y3, rfl, rfl, hb, la⟩ ⟨rfl, c, hc, rfl⟩
          have hi2 : i < wd.length := by rw [← sz1]; exact hi
          refine ⟨_, rfl, _, _, rfl, rfl, (by show (0 : Int) < 2; decide), _, _, _, rfl, rfl, (by decide +kernel), bits_at (n := n), _, rfl, _, _, rfl, rfl, ?_, ?_⟩
          · show 1 + (sOf acc).length ≤ sizeLine
            rw [sOf_len]
            exact sz (by omega)
          · refine ⟨_, rfl, _, _, rfl, rfl, ⟨by decide, by decide⟩, ?_⟩
            refine ⟨n / 2, (48 + n % 2) :: acc, some (.str ⟨#[c]⟩), ?_, rfl, ?_, ?_⟩
            · rw [show (⟨#[48 + n % 2]⟩ : Str) ++ sOf acc = sOf ((48 + n % 2) :: acc) from sOf_app [48 + n % 2] acc, show ((n / 2 : Nat) : Int) = ((n : Nat) : Int) / 2 by omega]
              rfl
            · rw [← hb, show wd.length - i = (wd.length - (i + 1)) + 1 by omega]
              rfl
            · rw [List.length_cons, la]
        · rintro σ H2 ⟨n, acc, y3, rfl, rfl, hb, la⟩
          rw [sz1, Nat.sub_self] at hb
          refine ⟨_, rfl, ?_⟩
          have : acc = bitsOf wd.length (bitsVal wd - 1) [] := hb
          rw [this]
          exact q
def spLawWords : Sp := fun vs H Q _ => ∃ (a : Addr) (ns : List Nat), vs = [.ref a] ∧ H a = some (.lst (nvs ns)) ∧ ns.length ≤ 100 ∧ (∀ n ∈ ns, n ≤ 12) ∧
  (∀ H', Same H H' → lawW ns = none → Q .non H') ∧ ∀ q W l H', lawW ns = some (W, l) → H q = none → Same H H' → H' q = some (.lst (W.map sV)) → Q (.ref q) H'
theorem ok_words {A : Ad} (T : Txt w K mg base A) : FnOk P w K mg base CX0 2 A.a_words A.d_words P_words spLawWords := by
  have G_less := ok_less (P := P) (w := w) (base := base) T
  refine T.F_words.ok sc_words (fun vs H Q E h => ?_) (fun cdv Ar outer s H vs Q E hr h => ?_)
  · obtain ⟨a, ns, rfl, _⟩ := h
    rfl
  · obtain ⟨a, ns, rfl, ha, ln, hn, q0, qq⟩ := h
    refine ⟨_, (pss_cons (ps_set (i := 1) sc_words.nd rfl (Or.inl rfl) (pe_op op_rep (pe_lst (pa_cons pe_str pa_nil)) (pe_callB (r := fun xs H Q => ∃ p ys, xs = [.ref p] ∧ (SqL K H p ys ∨ SqT K H p ys) ∧ Q (.int ys.length) H) call_len_seq (by rfl) T.z_len PySem.boot_len (pa_cons (pv 0) pa_nil))))
      (pss_cons (ps_set (i := 2) sc_words.nd rfl (Or.inl rfl) pe_str)
      (pss_cons (ps_for PassesOwn.never rfl (pi_range2 (by rfl) T.z_range (pa_cons pe_int (pa_cons pe_int pa_nil))) (pg_name (i := 3) sc_words.nd rfl (Or.inl rfl))
      (pss_one (ps_for PassesOwn.never rfl (pi_range1 (by rfl) T.z_range (pa_cons (pe_callB (r := fun xs H Q => ∃ p ys, xs = [.ref p] ∧ (SqL K H p ys ∨ SqT K H p ys) ∧ Q (.int ys.length) H) call_len_seq (by rfl) T.z_len PySem.boot_len (pa_cons (pv 0) pa_nil)) pa_nil)) (pg_name (i := 4) sc_words.nd rfl (Or.inl rfl))
      (pss_one (ps_if (pt_cmpR op_eq (pe_ix (r := rIxL K) ix_list (pv 0) (pv 4) (fun _ _ => rfl)) (pv 3) (nomark _))
      (pss_cons (ps_if (pt_cmpR op_ne (pv 2) pe_str (nomark _))
      (pss_one (ps_set (i := 2) sc_words.nd rfl (Or.inl rfl) (pe_call G_less (hr.mono (by decide)) (by rfl) T.g_less T.F_less.kp T.b_less .nil pass0 (pa_cons (pv 2) pa_nil)))) pss_nil)
      (pss_cons (ps_if (pt_cmpR op_isN (pv 2) pe_non (nomark _))
      (pss_one (ps_ret pe_non)) pss_nil)
      (pss_cons (ps_set (i := 2) sc_words.nd rfl (Or.inl rfl) (pe_op op_add_str (pv 2) (pe_op op_mul_str pe_str (pe_op op_sub (pv 3) (pe_callB call_len_str (by rfl) T.z_len PySem.boot_len (pa_cons (pv 2) pa_nil))))))
      (pss_one (ps_asg (pv 2) (pg_sub (pv 1) (pv 4) set_list)))))) pss_nil)))))
      (pss_one (ps_ret (pv 1)))))), ?_⟩
    have nl : (nvs ns).length = ns.length := by unfold nvs; rw [List.length_map, iv_len]
    refine ⟨(by show 1 ≤ sizeLine; decide), fun p1 hp1 => ?_⟩
    have s1 : Same H (upd H p1 (.lst [.str (Str.ofString "")])) := same_new hp1
    refine ⟨_, rfl, a, _, rfl, .inl (SqL.of (s1 _ _ ha)), _, _, _, rfl, rfl, upd_same, by omega, by omega, by rw [nl]; show 1 * _ ≤ sizeLine; exact sz (by omega), fun q hq => ?_⟩
    have s2 := s1.trans (same_new (o := .lst (List.replicate ((nvs ns).length : Int).toNat [V.str (Str.ofString "")]).flatten) hq)
    have fq : H q = none := by
      cases z : H q with
      | none => rfl
      | some u =>
        rw [s1 _ _ z] at hq
        cases hq
    have naq : a ≠ q := ne_of_none ha fq
    have sameOf : ∀ {H' : Hp}, (∀ b u, b ≠ q → upd H p1 (.lst [.str (Str.ofString "")]) b = some u → H' b = some u) → Same H H' := fun ke b u hb => ke b u (ne_of_none hb fq) (s1 _ _ hb)
    refine ⟨_, _, rfl, ⟨by decide, by decide, by decide, by decide⟩, for_range (lo := 1) (n := 12) (fun i σ H' => ∃ (f : List (List Nat)) (l : List Nat) (y3 y4 : Option V), σ = [some (.ref a), some (.ref q), some (.str (sOf l)), y3, y4] ∧ (ls12.take i).foldl (rowL ns) (some (List.replicate ns.length [], [])) = some (f, l) ∧ H' q = some (.lst (f.map sV)) ∧ l.length ≤ 12 ∧ f.length = ns.length ∧ ∀ b u, b ≠ q → upd H p1 (.lst [.str (Str.ofString "")]) b = some u → H' b = some u)
      ⟨List.replicate ns.length [], [], none, none, rfl, rfl, ?_, by decide, List.length_replicate, fun b u nb hb => by rw [upd_ne nb]; exact hb⟩ ?_ ?_⟩
    · rw [upd_same, rep_nil, nl]
      rfl
    · rintro i σ H1 hi ⟨f, l, y3, y4, rfl, e1, hq1, ll, lf, ke⟩
      have ha1 : H1 a = some (.lst (nvs ns)) := ke a _ naq (s1 _ _ ha)
      have row1 : (ls12.take (i + 1)).foldl (rowL ns) (some (List.replicate ns.length [], [])) = (List.range ns.length).foldl (stepL ns (i + 1)) (some (f, l)) := by
        rw [take_more ls12 i (i + 1) (ls12_at hi), List.foldl_append, e1]
        rfl
      generalize hFL : (some (f, l) : Option (List (List Nat) × List Nat)) = FL at row1 e1
      refine ⟨_, rfl, a, _, rfl, .inl (SqL.of ha1), _, rfl, by rw [nl]; omega, by rw [nl]; omega, ?_⟩
      rw [show ((nvs ns).length : Int).toNat = ns.length by rw [nl]; rfl]
      refine for_range (lo := 0) (n := ns.length) (fun j σ H' => ∃ (f : List (List Nat)) (l2 : List Nat) (y4 : Option V), σ = [some (.ref a), some (.ref q), some (.str (sOf l2)), some (.int (1 + (i : Int))), y4] ∧ ((List.range ns.length).take j).foldl (stepL ns (i + 1)) FL = some (f, l2) ∧ H' q = some (.lst (f.map sV)) ∧ l2.length ≤ 12 ∧ f.length = ns.length ∧ ∀ b u, b ≠ q → upd H p1 (.lst [.str (Str.ofString "")]) b = some u → H' b = some u)
        ⟨f, l, y4, rfl, hFL.symm, hq1, ll, lf, ke⟩ ?_ ?_
      · rintro j σ H2 hj ⟨f, l, y4, rfl, e2, hq2, ll, lf, ke2⟩
        have ha2 : H2 a = some (.lst (nvs ns)) := ke2 a _ naq (s1 _ _ ha)
        have fst2 : ((List.range ns.length).take (j + 1)).foldl (stepL ns (i + 1)) FL = stepL ns (i + 1) (((List.range ns.length).take j).foldl (stepL ns (i + 1)) FL) j := by
          rw [take_more (List.range ns.length) j j (List.getElem?_range hj), List.foldl_append]
          rfl
        refine ⟨_, rfl, _, rfl, _, _, _, .int ((ns.getD j 0 : Nat) : Int), rfl, rfl, SqL.of ha2, (by rw [Int.zero_add]; exact atI_nat (nvs_at hj)), _, rfl, rfl, _, rfl, ite2 (fun e => ?_) (fun e => ?_)⟩
        · have en : ns.getD j 0 = i + 1 := by
            have := V.int.inj (of_decide_eq_true e)
            omega
          refine ⟨_, rfl, rfl, _, rfl, ?_⟩
          by_cases hl0 : l = []
          · subst hl0
            rw [show (!decide (V.str (sOf []) = V.str (Str.ofString ""))) = false by rw [decide_eq_true (show V.str (sOf []) = V.str (Str.ofString "") from rfl)]; rfl]
            have l0 : ([] : List Nat).length = 0 := rfl
            refine ⟨_, rfl, rfl, _, rfl, ?_⟩
            refine ⟨_, rfl, _, rfl, _, rfl, _, rfl, (by rw [sOf_len]; exact sz (by omega)), _, _, rfl, rfl, 49, _, rfl, rfl, ⟨by rw [sOf_len]; omega, by rw [sOf_len]; omega⟩, _, _, rfl, rfl, ?_, ?_⟩
            · rw [sOf_len, sOf_len, List.length_replicate]
              exact sz (by omega)
            refine ⟨_, rfl, _, rfl, _, rfl, q, _, _, j, rfl, rfl, hq2, (by rw [Int.zero_add]; exact Evl.ixN_nat (by rw [List.length_map]; omega)), ?_⟩
            have ec : sOf ([] : List Nat) ++ sOf (List.replicate ((1 + (i : Int)) - ((sOf ([] : List Nat)).length : Int)).toNat 49) = sOf (([] : List Nat) ++ List.replicate (i + 1 - (([] : List Nat)).length) 49) := by
              rw [sOf_app, sOf_len, show ((1 + (i : Int)) - ((([] : List Nat)).length : Int)).toNat = i + 1 - (([] : List Nat)).length by omega]
            refine ⟨f.set j (([] : List Nat) ++ List.replicate (i + 1 - (([] : List Nat)).length) 49), ([] : List Nat) ++ List.replicate (i + 1 - (([] : List Nat)).length) 49, some (.int (0 + (j : Int))), ?_, ?_, ?_, ?_, ?_, fun b u nb hb => by rw [upd_ne nb]; exact ke2 b u nb hb⟩
            · rw [← ec]
              rfl
            · rw [fst2, e2]
              exact stepL_yes en (if_pos rfl)
            · rw [upd_same]
              show some (HO.lst ((f.map sV).set j (V.str _))) = _
              rw [ec]
              show some (HO.lst ((f.map sV).set j (sV (([] : List Nat) ++ List.replicate (i + 1 - (([] : List Nat)).length) 49)))) = _
              rw [← List.map_set]
            · rw [List.length_append, List.length_replicate]
              omega
            · rw [List.length_set]
              exact lf
          · have ne0 : (!decide (V.str (sOf l) = V.str (Str.ofString ""))) = true := by
              rw [decide_eq_false]
              · rfl
              · intro z
                have z2 : sOf l = sOf [] := V.str.inj z
                exact hl0 (sOf_inj z2)
            rw [ne0]
            refine ⟨_, rfl, l, rfl, by omega, ?_⟩
            cases hless : lawLess l with
            | none =>
              refine ⟨_, rfl, rfl, _, rfl, ?_⟩
              refine q0 H2 (sameOf ke2) ?_
              rw [lawW_eq]
              refine fold_take _ (rowL_none ns) ls12 _ (i + 1) ?_
              rw [row1]
              refine fold_take _ (stepL_none ns (i + 1)) _ _ (j + 1) ?_
              have fst3 := fst2
              rw [e2] at fst3
              have e3 : stepL ns (i + 1) (some (f, l)) j = none := stepL_bad en ((if_neg hl0).trans hless)
              rw [e3] at fst3
              exact fst3
            | some bb =>
              have lb := lawLess_len hless
              refine ⟨_, rfl, rfl, _, rfl, ?_⟩
              refine ⟨_, rfl, _, rfl, _, rfl, _, rfl, (by rw [sOf_len]; exact sz (by omega)), _, _, rfl, rfl, 49, _, rfl, rfl, ⟨by rw [sOf_len]; omega, by rw [sOf_len]; omega⟩, _, _, rfl, rfl, ?_, ?_⟩
              · rw [sOf_len, sOf_len, List.length_replicate]
                exact sz (by omega)
              refine ⟨_, rfl, _, rfl, _, rfl, q, _, _, j, rfl, rfl, hq2, (by rw [Int.zero_add]; exact Evl.ixN_nat (by rw [List.length_map]; omega)), ?_⟩
              have ec : sOf bb ++ sOf (List.replicate ((1 + (i : Int)) - ((sOf bb).length : Int)).toNat 49) = sOf (bb ++ List.replicate (i + 1 - (bb).length) 49) := by
                rw [sOf_app, sOf_len, show ((1 + (i : Int)) - ((bb).length : Int)).toNat = i + 1 - (bb).length by omega]
              refine ⟨f.set j (bb ++ List.replicate (i + 1 - (bb).length) 49), bb ++ List.replicate (i + 1 - (bb).length) 49, some (.int (0 + (j : Int))), ?_, ?_, ?_, ?_, ?_, fun b u nb hb => by rw [upd_ne nb]; exact ke2 b u nb hb⟩
              · rw [← ec]
                rfl
              · rw [fst2, e2]
                exact stepL_yes en ((if_neg hl0).trans hless)
              · rw [upd_same]
                show some (HO.lst ((f.map sV).set j (V.str _))) = _
                rw [ec]
                show some (HO.lst ((f.map sV).set j (sV (bb ++ List.replicate (i + 1 - (bb).length) 49)))) = _
                rw [← List.map_set]
              · rw [List.length_append, List.length_replicate]
                omega
              · rw [List.length_set]
                exact lf
        · have en : ¬ ns.getD j 0 = i + 1 := fun z => e (decide_eq_true (by rw [z]; congr 1; omega))
          refine ⟨f, l, some (.int (0 + (j : Int))), rfl, ?_, hq2, ll, lf, ke2⟩
          rw [fst2, e2]
          exact stepL_no en
      · rintro σ H2 ⟨f, l, y4, rfl, e2, hq2, ll, lf, ke2⟩
        refine ⟨f, l, _, _, rfl, ?_, hq2, ll, lf, ke2⟩
        rw [row1]
        rw [List.take_of_length_le (by rw [List.length_range]; exact Nat.le_refl _)] at e2
        exact e2
    · rintro σ H1 ⟨f, l, y3, y4, rfl, e1, hq1, ll, lf, ke⟩
      refine ⟨_, rfl, ?_⟩
      refine qq q f l H1 ?_ fq (sameOf ke) hq1
      rw [lawW_eq]
      rw [List.take_of_length_le (by decide)] at e1
      exact e1

/-! ### the bits of runs -/
def tabL (d : Bool) : List Nat := if d = true then darkL else lightL
def cellS (d : Bool) : Str := if d = true then Str.ofString "#" else Str.ofString "."
def tabW (d : Bool) : List (List Nat) := Fp.wordsOf (tabL d)
theorem tabW_len (d : Bool) : (tabW d).length = 20 := by
  cases d
  · exact len_light
  · exact len_dark
theorem tabW_lens (d : Bool) : ∀ w ∈ tabW d, w.length ≤ 12 := by
  cases d
  · exact lens_light
  · exact lens_dark
theorem tabW_at {d : Bool} {r : Nat} (h : r < 20) : ((tabW d).map sV)[r]? = some (sV ((tabW d).getD r [])) ∧ ((tabW d).getD r []).length ≤ 12 := by
  have h2 : r < (tabW d).length := by rw [tabW_len]; exact h
  rw [List.getElem?_map, List.getD_eq_getElem?_getD, List.getElem?_eq_getElem h2]
  exact ⟨rfl, tabW_lens d _ (List.getElem_mem h2)⟩
def spColour (p : Addr) : Sp := fun vs H Q _ => ∃ d : Bool, vs = [.str (cellS d)] ∧ LamX.Tabs (TT p) H ∧
  ∀ q H', LamX.ExtN H H' → LamX.Tabs (TT p) H' → H q = none → H' q = some (.lst ((tabW d).map sV)) → Q (.ref q) H'
theorem ok_colour_words {A : Ad} (T : Txt w K mg base A) : FnOk P w K mg base CX0 3 A.a_colour_words A.d_colour_words P_colour_words (spColour A.p_making_order) := by
  have G_words_by := ok_words_by (P := P) (w := w) (base := base) T
  refine T.F_colour_words.ok sc_colour_words (fun vs H Q E h => ?_) (fun cdv Ar outer s H vs Q E hr h => ?_)
  · obtain ⟨d, rfl, _⟩ := h
    rfl
  · obtain ⟨d, rfl, hT, q⟩ := h
    refine ⟨_, (pss_one (ps_ret (pe_call G_words_by (hr.mono (by decide)) (by rfl) T.g_words_by T.F_words_by.kp T.b_words_by .nil pass0 (pa_cons (pe_callTy call_list_of (by rfl) T.z_list (by decide +kernel) (pa_cons (pe_ix (r := rIxD K w) ix_kdict (pe_glob (v := .ref A.t_LENGTHS) (by rfl) T.c_LENGTHS rfl) (pv 0) (fun _ _ => rfl)) pa_nil)) pa_nil)))), ?_⟩
    cases d with
    | false =>
      refine ⟨_, rfl, _, _, _, rfl, rfl, T.D_LENGTHS_0, _, _, rfl, .inr (T.S_LENGTHS_0 H), fun l hl => ?_⟩
      refine ⟨l, lightL, rfl, tabs_same hT (same_new hl), upd_same, by decide, by decide, light_ok, fun q2 H' eN T2 fq hq => ?_⟩
      exact q q2 H' (fun b o hb nt => eN b o (same_new hl _ _ hb) nt) T2 ((same_new hl).free fq) hq
    | true =>
      refine ⟨_, rfl, _, _, _, rfl, rfl, T.D_LENGTHS_1, _, _, rfl, .inr (T.S_LENGTHS_1 H), fun l hl => ?_⟩
      refine ⟨l, darkL, rfl, tabs_same hT (same_new hl), upd_same, by decide, by decide, dark_ok, fun q2 H' eN T2 fq hq => ?_⟩
      exact q q2 H' (fun b o hb nt => eN b o (same_new hl _ _ hb) nt) T2 ((same_new hl).free fq) hq
def spRun0 : Sp := fun vs H Q _ => ∃ (a : Addr) (d : Bool) (r : Nat) (x : Int), vs = [.ref a, .int x] ∧ x = r ∧ H a = some (.lst ((tabW d).map sV)) ∧ r < 16 ∧ Q (.str (sOf ((tabW d).getD r []))) H
theorem ok_run_by0 {A : Ad} (T : Txt w K mg base A) : FnOk P w K mg base CX0 1 A.a_run_by A.d_run_by P_run_by spRun0 := by
  refine T.F_run_by.ok sc_run_by (fun vs H Q E h => ?_) (fun cdv Ar outer s H vs Q E hr h => ?_)
  · obtain ⟨a, d, r, x, rfl, _⟩ := h
    rfl
  · obtain ⟨a, d, r, _, rfl, rfl, ha, hr16, q⟩ := h
    refine ⟨_, (pss_cons (ps_if (pt_cmpR op_lt (pv 1) (pe_glob (v := .int (16)) (by rfl) T.c_ENDS ⟨_, rfl⟩) (nomark _))
      (pss_one (ps_ret (pe_ix (r := rIxL K) ix_list (pv 0) (pv 1) (fun _ _ => rfl)))) pss_nil)
      (pss_cons ps_never
      (pss_one ps_never))), ?_⟩
    refine ⟨_, rfl, _, _, rfl, rfl, _, rfl, ite2 (fun e => ?_) (fun e => ?_)⟩
    · exact ⟨_, rfl, _, rfl, _, _, _, _, rfl, rfl, SqL.of ha, atI_nat (tabW_at (by omega)).1, q⟩
    · exact absurd (decide_eq_true (by omega)) e
def spRun : Sp := fun vs H Q _ => ∃ (a : Addr) (d : Bool) (r : Nat) (x : Int), vs = [.ref a, .int x] ∧ x = r ∧ H a = some (.lst ((tabW d).map sV)) ∧ r ≤ 64 ∧ Q (.str (sOf (runT (tabW d) r))) H
theorem ok_run_by {A : Ad} (T : Txt w K mg base A) : FnOk P w K mg base CX0 2 A.a_run_by A.d_run_by P_run_by spRun := by
  have G_run_by := ok_run_by0 (P := P) (w := w) (base := base) T
  refine T.F_run_by.ok sc_run_by (fun vs H Q E h => ?_) (fun cdv Ar outer s H vs Q E hr h => ?_)
  · obtain ⟨a, d, r, x, rfl, _⟩ := h
    rfl
  · obtain ⟨a, d, r, _, rfl, rfl, ha, hr64, q⟩ := h
    refine ⟨_, (pss_cons (ps_if (pt_cmpR op_lt (pv 1) (pe_glob (v := .int (16)) (by rfl) T.c_ENDS ⟨_, rfl⟩) (nomark _))
      (pss_one (ps_ret (pe_ix (r := rIxL K) ix_list (pv 0) (pv 1) (fun _ _ => rfl)))) pss_nil)
      (pss_cons (ps_set (i := 2) sc_run_by.nd rfl (Or.inl rfl) (pe_callB (call_min2 rfl) (by rfl) T.z_min (by decide +kernel) (pa_cons (pe_op op_fdiv (pv 1) (pe_glob (v := .int (16)) (by rfl) T.c_ENDS ⟨_, rfl⟩)) (pa_cons (pe_glob (v := .int (4)) (by rfl) T.c_MAKERS ⟨_, rfl⟩) pa_nil))))
      (pss_one (ps_ret (pe_op op_add_str (pe_ix (r := rIxL K) ix_list (pv 0) (pe_op op_sub (pe_op op_add (pe_glob (v := .int (16)) (by rfl) T.c_ENDS ⟨_, rfl⟩) (pv 2)) pe_int) (fun _ _ => rfl)) (pe_call G_run_by (hr.mono (by decide)) (by rfl) T.g_run_by T.F_run_by.kp T.b_run_by .nil pass0 (pa_cons (pv 0) (pa_cons (pe_op op_sub (pv 1) (pe_op op_mul (pv 2) (pe_glob (v := .int (16)) (by rfl) T.c_ENDS ⟨_, rfl⟩))) pa_nil)))))))), ?_⟩
    refine ⟨_, rfl, _, _, rfl, rfl, _, rfl, ite2 (fun e => ?_) (fun e => ?_)⟩
    · have r16 : r < 16 := by
        have := of_decide_eq_true e
        omega
      unfold runT at q
      rw [if_pos r16] at q
      exact ⟨_, rfl, _, rfl, _, _, _, _, rfl, rfl, SqL.of ha, atI_nat (tabW_at (by omega)).1, q⟩
    · have r16 : ¬ r < 16 := fun z => e (decide_eq_true (by omega))
      unfold runT at q
      rw [if_neg r16] at q
      have em : (if (4 : Int) < (r : Int) / 16 then (4 : Int) else (r : Int) / 16) = ((r / 16 : Nat) : Int) := by
        rw [if_neg (by omega)]
        omega
      refine ⟨_, rfl, _, _, rfl, rfl, ⟨by decide, by decide⟩, _, _, rfl, ?_⟩
      rw [em]
      have t1 := tabW_at (d := d) (r := 15 + r / 16) (by omega)
      have t2 := tabW_at (d := d) (r := r - r / 16 * 16) (by omega)
      refine ⟨_, rfl, _, rfl, _, _, rfl, rfl, _, _, rfl, rfl, _, _, _, sV ((tabW d).getD (15 + r / 16) []), rfl, rfl, SqL.of ha, ?_, _, rfl, _, rfl, _, rfl, _, _, rfl, rfl, .inr ⟨by decide, by decide⟩, _, _, rfl, rfl, a, d, r - r / 16 * 16, _, rfl, by omega, ha, by omega, _, _, rfl, rfl, ?_, ?_⟩
      · rw [show (16 : Int) + ((r / 16 : Nat) : Int) - 1 = ((15 + r / 16 : Nat) : Int) by omega]
        exact atI_nat t1.1
      · rw [sOf_len, sOf_len]
        exact sz (by have := t1.2; have := t2.2; omega)
      · rw [sOf_app]
        exact q

def thirdL : List Nat := [1, 3, 3, 3, 5, 5, 6, 6, 6]
def thirdW : List (List Nat) := Fp.wordsOf thirdL

theorem third_same : (lawW thirdL).map (·.1) = some thirdW := by decide +kernel
theorem law_third {W : List (List Nat)} {l : List Nat} (h : lawW thirdL = some (W, l)) : W = thirdW := by
  have := third_same
  rw [h] at this
  exact Option.some.inj this
def spTables : Sp := fun vs H Q _ => vs = [] ∧ ∀ p t0 t1 t2 H', Same H H' → H' p = some (.lst [.ref t0, .ref t1, .ref t2]) → H' t0 = some (.lst ((tabW false).map sV)) → H' t1 = some (.lst ((tabW true).map sV)) → H' t2 = some (.lst (thirdW.map sV)) → Q (.ref p) H'
theorem law_light {W : List (List Nat)} {l : List Nat} (h : lawW lightL = some (W, l)) : W = tabW false := by
  have := light_same
  rw [h] at this
  exact Option.some.inj this
theorem law_dark {W : List (List Nat)} {l : List Nat} (h : lawW darkL = some (W, l)) : W = tabW true := by
  have := dark_same
  rw [h] at this
  exact Option.some.inj this
theorem not_none {ns : List Nat} (h : (lawW ns).isSome = true) (e : lawW ns = none) : False := by
  rw [e] at h
  cases h
theorem ok_tables {A : Ad} (T : Txt w K mg base A) : FnOk P w K mg base CX0 3 A.a_tables A.d_tables P_tables spTables := by
  have G_words := ok_words (P := P) (w := w) (base := base) T
  refine T.F_tables.ok sc_tables (fun vs H Q E h => ?_) (fun cdv Ar outer s H vs Q E hr h => ?_)
  · obtain ⟨rfl, _⟩ := h
    rfl
  · obtain ⟨rfl, q⟩ := h
    refine ⟨_, (pss_cons (ps_set (i := 0) sc_tables.nd rfl (Or.inl rfl) (pe_lst (pa_cons pe_int (pa_cons pe_int (pa_cons pe_int (pa_cons pe_int (pa_cons pe_int (pa_cons pe_int (pa_cons pe_int (pa_cons pe_int (pa_cons pe_int (pa_cons pe_int (pa_cons pe_int (pa_cons pe_int (pa_cons pe_int (pa_cons pe_int (pa_cons pe_int (pa_cons pe_int (pa_cons pe_int (pa_cons pe_int (pa_cons pe_int (pa_cons pe_int pa_nil))))))))))))))))))))))
      (pss_cons (ps_set (i := 1) sc_tables.nd rfl (Or.inl rfl) (pe_lst (pa_cons pe_int (pa_cons pe_int (pa_cons pe_int (pa_cons pe_int (pa_cons pe_int (pa_cons pe_int (pa_cons pe_int (pa_cons pe_int (pa_cons pe_int (pa_cons pe_int (pa_cons pe_int (pa_cons pe_int (pa_cons pe_int (pa_cons pe_int (pa_cons pe_int (pa_cons pe_int (pa_cons pe_int (pa_cons pe_int (pa_cons pe_int (pa_cons pe_int pa_nil))))))))))))))))))))))
      (pss_one (ps_ret (pe_lst (pa_cons (pe_call G_words (hr.mono (by decide)) (by rfl) T.g_words T.F_words.kp T.b_words .nil pass0 (pa_cons (pv 0) pa_nil)) (pa_cons (pe_call G_words (hr.mono (by decide)) (by rfl) T.g_words T.F_words.kp T.b_words .nil pass0 (pa_cons (pv 1) pa_nil)) (pa_cons (pe_call G_words (hr.mono (by decide)) (by rfl) T.g_words T.F_words.kp T.b_words .nil pass0 (pa_cons (pe_lst (pa_cons pe_int (pa_cons pe_int (pa_cons pe_int (pa_cons pe_int (pa_cons pe_int (pa_cons pe_int (pa_cons pe_int (pa_cons pe_int (pa_cons pe_int pa_nil)))))))))) pa_nil)) pa_nil)))))))), ?_⟩
    refine ⟨(by show 20 ≤ sizeLine; decide), fun p1 h1 => ?_⟩
    refine ⟨(by show 20 ≤ sizeLine; decide), fun p2 h2 => ?_⟩
    refine ⟨_, rfl, p1, lightL, rfl, ?_, by decide, by decide, fun H' _ e => (not_none (by decide +kernel) e).elim, fun t0 W0 l0 H3 e0 f0 s3 g0 => ?_⟩
    · rw [upd_ne (ne_of_none upd_same h2), upd_same]
      rfl
    refine ⟨_, rfl, p2, darkL, rfl, s3 _ _ upd_same, by decide, by decide, fun H' _ e => (not_none (by decide +kernel) e).elim, fun t1 W1 l1 H4 e1 f1 s4 g1 => ?_⟩
    refine ⟨(by show 9 ≤ sizeLine; decide), fun p5 h5 => ?_⟩
    refine ⟨p5, [1, 3, 3, 3, 5, 5, 6, 6, 6], rfl, upd_same, by decide, by decide, fun H' _ e => (not_none third_some e).elim, fun t2 W2 l2 H6 e2 f2 s6 g2 => ?_⟩
    refine ⟨(by show 3 ≤ sizeLine; decide), fun p7 h7 => ?_⟩
    have s5 : Same H4 _ := same_new (o := .lst [.int 1, .int 3, .int 3, .int 3, .int 5, .int 5, .int 6, .int 6, .int 6]) h5
    have s7 := fun (o : HO) => same_new (o := o) h7
    have sA := ((same_new (o := .lst (nvs lightL)) h1).trans (same_new (o := .lst (nvs darkL)) h2)).trans (s3.trans (s4.trans (s5.trans s6)))
    rw [law_light e0] at g0
    rw [law_dark e1] at g1
    rw [law_third e2] at g2
    exact q p7 t0 t1 t2 _ (sA.trans (s7 _)) upd_same (s7 _ _ _ (s6 _ _ (s5 _ _ (s4 _ _ g0)))) (s7 _ _ _ (s6 _ _ (s5 _ _ g1))) (s7 _ _ _ g2)
def spLRun : Sp := fun vs H Q _ => ∃ (p t0 t1 t2 : Addr) (d : Bool) (r : Nat) (x : Int), vs = [.ref p, .str (cellS d), .int x] ∧ x = r ∧ r ≤ 64 ∧ H p = some (.lst [.ref t0, .ref t1, .ref t2]) ∧ H t0 = some (.lst ((tabW false).map sV)) ∧ H t1 = some (.lst ((tabW true).map sV)) ∧ Q (.str (sOf (runT (tabW d) r))) H
theorem ok_run {A : Ad} (T : Txt w K mg base A) : FnOk P w K mg base CX0 1 A.a_run A.d_run P_run spLRun := by
  refine T.F_run.ok sc_run (fun vs H Q E h => ?_) (fun cdv Ar outer s H vs Q E hr h => ?_)
  · obtain ⟨p, t0, t1, t2, d, r, x, rfl, _⟩ := h
    rfl
  · obtain ⟨p, t0, t1, t2, d, r, _, rfl, rfl, hr64, hp, h0, h1, q⟩ := h
    refine ⟨_, (pss_cons (ps_set (i := 3) sc_run.nd rfl (Or.inl rfl) (pe_ix (r := rIxL K) ix_list (pv 0) (pe_callTy call_int1 (by rfl) T.z_int (by decide +kernel) (pa_cons (pe_cmpR op_eq (pv 1) pe_str (nomark _)) pa_nil)) (fun _ _ => rfl)))
      (pss_cons (ps_if (pt_cmpR op_lt (pv 2) pe_int (nomark _))
      (pss_one (ps_ret (pe_ix (r := rIxL K) ix_list (pv 3) (pv 2) (fun _ _ => rfl)))) pss_nil)
      (pss_one (ps_ret (pe_op op_add_str (pe_ix (r := rIxL K) ix_list (pv 3) (pe_op op_add pe_int (pe_op op_fdiv (pv 2) pe_int)) (fun _ _ => rfl)) (pe_ix (r := rIxL K) ix_list (pv 3) (pe_op op_sub (pv 2) (pe_op op_mul (pe_op op_fdiv (pv 2) pe_int) pe_int)) (fun _ _ => rfl))))))), ?_⟩
    obtain ⟨tt, et, ht⟩ : ∃ tt, atI [V.ref t0, V.ref t1, V.ref t2] (if decide (V.str (cellS d) = V.str (Str.ofString "#")) = true then (1 : Int) else 0) = some (.ref tt) ∧ H tt = some (.lst ((tabW d).map sV)) := by
      cases d with
      | false => exact ⟨t0, rfl, h0⟩
      | true => exact ⟨t1, rfl, h1⟩
    refine ⟨_, rfl, _, rfl, rfl, .inr ⟨_, rfl, _, _, _, .ref tt, rfl, rfl, SqL.of hp, et, ?_⟩⟩
    refine ⟨_, rfl, _, _, rfl, rfl, _, rfl, ite2 (fun e => ?_) (fun e => ?_)⟩
    · have r16 : r < 16 := by
        have := of_decide_eq_true e
        omega
      unfold runT at q
      rw [if_pos r16] at q
      exact ⟨_, rfl, _, rfl, _, _, _, _, rfl, rfl, SqL.of ht, atI_nat (tabW_at (by omega)).1, q⟩
    · have r16 : ¬ r < 16 := fun z => e (decide_eq_true (by omega))
      unfold runT at q
      rw [if_neg r16] at q
      have u1 := tabW_at (d := d) (r := 15 + r / 16) (by omega)
      have u2 := tabW_at (d := d) (r := r - r / 16 * 16) (by omega)
      refine ⟨_, rfl, _, rfl, _, _, rfl, rfl, ⟨by decide, by decide⟩, _, _, rfl, rfl, _, _, _, sV ((tabW d).getD (15 + r / 16) []), rfl, rfl, SqL.of ht, ?_, _, rfl, _, rfl, _, rfl, _, _, rfl, rfl, ⟨by decide, by decide⟩, _, _, rfl, rfl, .inr ⟨by decide, by decide⟩, _, _, rfl, rfl, _, _, _, sV ((tabW d).getD (r - r / 16 * 16) []), rfl, rfl, SqL.of ht, ?_, _, _, rfl, rfl, ?_, ?_⟩
      · rw [show (15 : Int) + (r : Int) / 16 = ((15 + r / 16 : Nat) : Int) by omega]
        exact atI_nat u1.1
      · rw [show (r : Int) - (r : Int) / 16 * 16 = ((r - r / 16 * 16 : Nat) : Int) by omega]
        exact atI_nat u2.1
      · rw [sOf_len, sOf_len]
        exact sz (by have := u1.2; have := u2.2; omega)
      · rw [sOf_app]
        exact q

/-! ### colours -/
def cellC (d : Bool) : Nat := if d = true then 35 else 46
theorem cellS_eq (d : Bool) : cellS d = sOf [cellC d] := by cases d <;> rfl
theorem oth_cellC (d : Bool) : oth (cellC d) = cellC (!d) := by cases d <;> rfl
theorem runT_len {d : Bool} {r : Nat} (h : r ≤ 64) : (runT (tabW d) r).length ≤ 24 := by
  unfold runT
  split
  · have := (tabW_at (d := d) (r := r) (by omega)).2
    omega
  · have t1 := (tabW_at (d := d) (r := 15 + r / 16) (by omega)).2
    have t2 := (tabW_at (d := d) (r := r - r / 16 * 16) (by omega)).2
    rw [List.length_append]
    omega
theorem merge2 (v0 v1 : V) : mergeK [] [(.inr (cellS false), v0), (.inr (cellS true), v1)] = [(.inr (cellS false), v0), (.inr (cellS true), v1)] := rfl
theorem dget2 {H : Hp} {a : Addr} {v0 v1 : V} (d : Bool) (h : H a = some (.dK [(.inr (cellS false), v0), (.inr (cellS true), v1)])) : DGet H a (.str (cellS d)) (some (if d = true then v1 else v0)) := by
  have e := DGet.k (k := .inr (cellS d)) h
  cases d
  · exact e
  · exact e
theorem tabs_butD {T : List (Addr × Str)} {H H' : Hp} {q : Addr} {kvs : List (Key × V)} (h : LamX.Tabs T H) (hq : H q = some (.dK kvs)) (e : ∀ b o, b ≠ q → H b = some o → H' b = some o) : LamX.Tabs T H' := fun p hp => by
  obtain ⟨ps, h1, h2, h3⟩ := h p hp
  refine ⟨ps, e _ _ (fun z => ?_) h1, h2, fun pos cv hc => ?_⟩
  · rw [z, hq] at h1
    cases h1
  · obtain ⟨c, e1, e2⟩ := h3 pos cv hc
    refine ⟨c, e1, e _ _ (fun z => ?_) e2⟩
    rw [z, hq] at e2
    unfold LamX.CodeO at e2
    cases e2

/-! ### the bits of all runs -/
def rtab (d : Bool) (m : Nat) : List V := (List.range (m + 1)).map fun r => sV (runT (tabW d) r)
def spRTab (p : Addr) : Sp := fun vs H Q _ => ∃ (d : Bool) (m : Nat) (x : Int), vs = [.str (cellS d), .int x] ∧ x = m ∧ m ≤ 64 ∧ LamX.Tabs (TT p) H ∧ ∀ q H', LamX.ExtN H H' → LamX.Tabs (TT p) H' → H' q = some (.lst (rtab d m)) → Q (.ref q) H'
theorem ok_run_table {A : Ad} (T : Txt w K mg base A) : FnOk P w K mg base CX0 4 A.a_run_table A.d_run_table P_run_table (spRTab A.p_making_order) := by
  have G_colour_words := ok_colour_words (P := P) (w := w) (base := base) T
  have G_run_by := ok_run_by (P := P) (w := w) (base := base) T
  refine T.F_run_table.ok sc_run_table (fun vs H Q E h => ?_) (fun cdv Ar outer s H vs Q E hr h => ?_)
  · obtain ⟨d, m, x, rfl, _⟩ := h
    rfl
  · obtain ⟨d, m, _, rfl, rfl, m1, hT, q⟩ := h
    refine ⟨_, (pss_cons (ps_set (i := 2) sc_run_table.nd rfl (by first | exact Or.inl rfl | exact Or.inr rfl) (pe_call G_colour_words (hr.mono (by decide)) (by rfl) T.g_colour_words T.F_colour_words.kp T.b_colour_words .nil pass0 (pa_cons (pv 0) pa_nil)))
      (pss_one (ps_ret (pe_lc (own := [("run", 3)]) (g := gName 3) (tt := tYes) (by rfl) sc_run_table.nd (pi_range1 (by rfl) T.z_range (pa_cons (pe_op op_add (pv 1) pe_int) pa_nil)) (blkOk_by (own := [("run", 3)]) (N := N_run_table) (sc := defScope s_run_table) (by decide +kernel)) (fun _ _ _ _ _ => pg_name (i := 3) sc_run_table.nd rfl (Or.inl rfl)) (fun _ _ _ _ _ => pts_nil) (fun s5 H5 C5 cl5 fp5 => (pe_call G_run_by (hr.mono (by decide)) (by rfl) T.g_run_by T.F_run_by.kp T.b_run_by .nil pass0 (pa_cons (pv 2) (pa_cons (pv 3) pa_nil)))))))), ?_⟩
    refine ⟨_, rfl, d, rfl, hT, fun wq H1 e1 T1 fw hw => ?_⟩
    refine ⟨_, rfl, _, _, rfl, rfl, _, rfl, by omega, by omega, fun D hD => ?_⟩
    rw [show ((m : Int) + 1).toNat = m + 1 by omega]
    refine lc_range (lo := 0) (n := m + 1) (fun i H' => Same H1 H' ∧ H' D = some (.lst ((List.range i).map fun r => sV (runT (tabW d) r)))) ⟨same_new hD, upd_same⟩ ?_ ?_
    · rintro i H2 hi ⟨sm, hD2⟩
      refine ⟨rfl, _, rfl, _, rfl, wq, d, i, _, rfl, Int.zero_add _, sm _ _ hw, by omega, _, hD2, ?_, Same.mut sm hD, ?_⟩
      · rw [List.length_map, List.length_range]
        exact szl (by omega)
      · rw [upd_same, range_more]
        rfl
    · rintro H2 ⟨sm, hD2⟩
      exact q D H2 (e1.trans (extN_of sm)) (tabs_same T1 sm) hD2
def TabD (H : Hp) (a : Addr) (m : Nat) : Prop := ∃ q0 q1, H a = some (.dK [(.inr (cellS false), .ref q0), (.inr (cellS true), .ref q1)]) ∧ H q0 = some (.lst (rtab false m)) ∧ H q1 = some (.lst (rtab true m))
theorem TabD.ext {H H' : Hp} {a : Addr} {m : Nat} (h : TabD H a m) (e : LamX.ExtN H H') : TabD H' a m := by
  obtain ⟨q0, q1, h1, h2, h3⟩ := h
  exact ⟨q0, q1, e _ _ h1 (fun ps z => by cases z), e _ _ h2 (fun ps z => by cases z), e _ _ h3 (fun ps z => by cases z)⟩
theorem TabD.get {H : Hp} {a : Addr} {m : Nat} (h : TabD H a m) (d : Bool) : ∃ q, DGet H a (.str (cellS d)) (some (.ref q)) ∧ H q = some (.lst (rtab d m)) := by
  obtain ⟨q0, q1, h1, h2, h3⟩ := h
  have e := dget2 d h1
  cases d
  · exact ⟨q0, e, h2⟩
  · exact ⟨q1, e, h3⟩
theorem rtab_at {d : Bool} {m r : Nat} (h : r ≤ m) : (rtab d m)[r]? = some (sV (runT (tabW d) r)) := by
  unfold rtab
  rw [List.getElem?_map, List.getElem?_range (by omega)]
  rfl
def spRTabs (p : Addr) : Sp := fun vs H Q _ => ∃ (m : Nat) (x : Int), vs = [.int x] ∧ x = m ∧ m ≤ 64 ∧ LamX.Tabs (TT p) H ∧ ∀ q H', LamX.ExtN H H' → LamX.Tabs (TT p) H' → TabD H' q m → Q (.ref q) H'
theorem ok_run_tables {A : Ad} (T : Txt w K mg base A) : FnOk P w K mg base CX0 5 A.a_run_tables A.d_run_tables P_run_tables (spRTabs A.p_making_order) := by
  have G_run_table := ok_run_table (P := P) (w := w) (base := base) T
  refine T.F_run_tables.ok sc_run_tables (fun vs H Q E h => ?_) (fun cdv Ar outer s H vs Q E hr h => ?_)
  · obtain ⟨m, x, rfl, _⟩ := h
    rfl
  · obtain ⟨m, _, rfl, rfl, m1, hT, q⟩ := h
    refine ⟨_, (pss_one (ps_ret (pe_disp (pps_cons (pe_glob (v := .str (Str.ofString ".")) (by rfl) T.c_LIGHT ⟨_, rfl⟩) (pe_call G_run_table (hr.mono (by decide)) (by rfl) T.g_run_table T.F_run_table.kp T.b_run_table .nil pass0 (pa_cons (pe_glob (v := .str (Str.ofString ".")) (by rfl) T.c_LIGHT ⟨_, rfl⟩) (pa_cons (pv 0) pa_nil))) (pps_cons (pe_glob (v := .str (Str.ofString "#")) (by rfl) T.c_DARK ⟨_, rfl⟩) (pe_call G_run_table (hr.mono (by decide)) (by rfl) T.g_run_table T.F_run_table.kp T.b_run_table .nil pass0 (pa_cons (pe_glob (v := .str (Str.ofString "#")) (by rfl) T.c_DARK ⟨_, rfl⟩) (pa_cons (pv 0) pa_nil))) pps_nil)) (by rfl) (by rfl) (by simp) (by decide)))), ?_⟩
    refine fun dp hdp => ?_
    have s1 : Same H (upd H dp (.dK [])) := same_new hdp
    refine ⟨_, rfl, false, m, _, rfl, rfl, m1, tabs_same hT s1, fun w0 H1 e1 T1 h0 => ?_⟩
    refine ⟨_, rfl, true, m, _, rfl, rfl, m1, T1, fun w1 H2 e2 T2 h1 => ?_⟩
    have hd2 : H2 dp = some (.dK []) := e2 _ _ (e1 _ _ upd_same (fun ps z => by cases z)) (fun ps z => by cases z)
    refine ⟨hd2, [(.inr (cellS false), .ref w0), (.inr (cellS true), .ref w1)], rfl, (by show 2 ≤ 15; decide), ?_⟩
    rw [merge2]
    have h02 : H2 w0 = some (.lst (rtab false m)) := e2 _ _ h0 (fun ps z => by cases z)
    have n0 : w0 ≠ dp := ne_of h02 hd2 (by intro z; cases z)
    have n1 : w1 ≠ dp := ne_of h1 hd2 (by intro z; cases z)
    generalize hG : upd H2 dp (.dK [(.inr (cellS false), .ref w0), (.inr (cellS true), .ref w1)]) = G
    refine q dp G (fun b o hb nt => ?_) (tabs_butD (q := dp) T2 hd2 (fun c o n z => by rw [← hG, upd_ne n]; exact z)) ⟨w0, w1, by rw [← hG, upd_same], by rw [← hG, upd_ne n0]; exact h02, by rw [← hG, upd_ne n1]; exact h1⟩
    have nb : b ≠ dp := ne_of_none hb hdp
    rw [← hG, upd_ne nb]
    exact e2 _ _ (e1 _ _ (s1 _ _ hb) nt) nt

/-! ### the plain telling -/
def plainF : List Nat → Bool → List Nat
  | [], _ => []
  | r :: rs, d => runT (tabW d) r ++ plainF rs (!d)
def plainB (l : List Nat) : List Nat := plainF (runsL l) false
def xorN (d : Bool) : Nat → Bool
  | 0 => d
  | i + 1 => !xorN d i
theorem xorN_not (d : Bool) : ∀ i, xorN (!d) i = !xorN d i
  | 0 => rfl
  | i + 1 => by
    show (!xorN (!d) i) = !!xorN d i
    rw [xorN_not d i]
theorem plainF_more : ∀ (rs : List Nat) (d : Bool) (i r : Nat), rs[i]? = some r → plainF (rs.take (i + 1)) d = plainF (rs.take i) d ++ runT (tabW (xorN d i)) r
  | [], _, _, _, h => by cases h
  | y :: rs, d, 0, r, h => by
    have : y = r := Option.some.inj h
    subst this
    show runT (tabW d) y ++ plainF (rs.take 0) (!d) = [] ++ runT (tabW d) y
    rw [List.take_zero]
    show runT (tabW d) y ++ [] = _
    rw [List.append_nil, List.nil_append]
  | y :: rs, d, i + 1, r, h => by
    show runT (tabW d) y ++ plainF (rs.take (i + 1)) (!d) = (runT (tabW d) y ++ plainF (rs.take i) (!d)) ++ runT (tabW (!xorN d i)) r
    rw [plainF_more rs (!d) i r h, xorN_not, List.append_assoc]
theorem plainF_len : ∀ (rs : List Nat) (d : Bool), (∀ r ∈ rs, r ≤ 64) → (plainF rs d).length ≤ 24 * rs.length
  | [], _, _ => Nat.zero_le _
  | r :: rs, d, h => by
    have h1 := plainF_len rs (!d) fun x hx => h x (List.mem_cons_of_mem _ hx)
    have h2 := runT_len (d := d) (h r (List.mem_cons_self ..))
    show (runT (tabW d) r ++ plainF rs (!d)).length ≤ _
    rw [List.length_append, List.length_cons]
    omega
theorem runs_le {l : List Nat} (h : Row l) (h64 : l.length ≤ 64) : ∀ r ∈ runsL l, r ≤ 64 := fun r hr => by
  have := le_sum hr
  rw [runs_sum h] at this
  omega
theorem plainB_len {l : List Nat} (h : Row l) (h64 : l.length ≤ 64) : (plainB l).length ≤ 1560 := by
  have h1 := plainF_len (runsL l) false (runs_le h h64)
  have h2 := runs_len h
  unfold plainB
  omega

def TabsAt (H : Hp) (p : Addr) : Prop := ∃ t0 t1 t2, H p = some (.lst [.ref t0, .ref t1, .ref t2]) ∧ H t0 = some (.lst ((tabW false).map sV)) ∧ H t1 = some (.lst ((tabW true).map sV)) ∧ H t2 = some (.lst (thirdW.map sV))
theorem TabsAt.ext {H H' : Hp} {p : Addr} (h : TabsAt H p) (e : LamX.ExtN H H') : TabsAt H' p := by
  obtain ⟨t0, t1, t2, h1, h2, h3, h4⟩ := h
  exact ⟨t0, t1, t2, e _ _ h1 (fun ps z => by cases z), e _ _ h2 (fun ps z => by cases z), e _ _ h3 (fun ps z => by cases z), e _ _ h4 (fun ps z => by cases z)⟩

def spLPlain : Sp := fun vs H Q _ => ∃ (p : Addr) (l : List Nat), vs = [.ref p, .str (sOf l)] ∧ TabsAt H p ∧ Row l ∧ l.length ≤ 64 ∧ Q (.str (sOf (plainB l))) H
theorem flip_at (d : Bool) : atI (Str.ofString ".#").cps.toList (if decide (V.str (cellS d) = V.str (Str.ofString ".")) = true then (1 : Int) else 0) = some (cellC (!d)) := by
  cases d
  · rw [show decide (V.str (cellS false) = V.str (Str.ofString ".")) = true from decide_eq_true rfl]
    rfl
  · rw [show decide (V.str (cellS true) = V.str (Str.ofString ".")) = false from decide_eq_false (fun h => by have := V.str.inj h; revert this; decide)]
    rfl
theorem plainF_one (k : Nat) (d : Bool) : plainF [k] d = runT (tabW d) k := by
  show runT (tabW d) k ++ [] = _
  rw [List.append_nil]
theorem ok_plain {A : Ad} (T : Txt w K mg base A) : FnOk P w K mg base CX0 2 A.a_plain A.d_plain P_plain spLPlain := by
  have G_run := ok_run (P := P) (w := w) (base := base) T
  refine T.F_plain.ok sc_plain (fun vs H Q E h => ?_) (fun cdv Ar outer s H vs Q E hr h => ?_)
  · obtain ⟨p, l, rfl, _⟩ := h
    rfl
  · obtain ⟨p, l, rfl, ⟨t0, t1, t2, hp, h0, h1, h2⟩, rl, l1, q⟩ := h
    refine ⟨_, (pss_cons (ps_set (i := 2) sc_plain.nd rfl (Or.inl rfl) pe_str)
      (pss_cons (ps_set (i := 3) sc_plain.nd rfl (Or.inl rfl) pe_str)
      (pss_cons (ps_set (i := 4) sc_plain.nd rfl (Or.inl rfl) pe_int)
      (pss_cons (ps_for PassesOwn.never rfl (pi_range1 (by rfl) T.z_range (pa_cons (pe_op op_add (pe_callB call_len_str (by rfl) T.z_len PySem.boot_len (pa_cons (pv 1) pa_nil)) pe_int) pa_nil)) (pg_name (i := 5) sc_plain.nd rfl (Or.inl rfl))
      (pss_one (ps_if (PW.pt (pw_or (pt_cmpR op_eq (pv 5) (pe_callB call_len_str (by rfl) T.z_len PySem.boot_len (pa_cons (pv 1) pa_nil)) (nomark _)) (pw_or1 (pt_cmpR op_ne (pe_ix ix_str (pv 1) (pv 5) (fun _ _ => rfl)) (pv 3) (nomark _)))))
      (pss_cons (ps_set (i := 2) sc_plain.nd rfl (Or.inl rfl) (pe_op op_add_str (pv 2) (pe_call G_run (hr.mono (by decide)) (by rfl) T.g_run T.F_run.kp T.b_run .nil pass0 (pa_cons (pv 0) (pa_cons (pv 3) (pa_cons (pe_op op_sub (pv 5) (pv 4)) pa_nil))))))
      (pss_cons (ps_set (i := 3) sc_plain.nd rfl (Or.inl rfl) (pe_ix ix_str pe_str (pe_callTy call_int1 (by rfl) T.z_int (by decide +kernel) (pa_cons (pe_cmpR op_eq (pv 3) pe_str (nomark _)) pa_nil)) (fun _ _ => rfl)))
      (pss_one (ps_set (i := 4) sc_plain.nd rfl (Or.inl rfl) (pv 5))))) pss_nil)))
      (pss_one (ps_ret (pv 2))))))), ?_⟩
    have hl : (sOf l).length ≤ sizeLine := by
      rw [sOf_len]
      exact sz (by omega)
    refine ⟨_, rfl, _, rfl, hl, _, _, rfl, rfl, _, rfl, ?_⟩
    rw [sOf_len]
    refine ⟨by omega, by omega, ?_⟩
    rw [show ((l.length : Int) + 1).toNat = l.length + 1 by omega]
    refine for_range (lo := 0) (n := l.length + 1) (fun i σ H' => ∃ (f : List Nat) (d : Bool) (b : Nat) (y5 : Option V), σ = [some (.ref p), some (.str (sOf l)), some (.str (sOf f)), some (.str (cellS d)), some (.int (b : Int)), y5] ∧ H' = H ∧ (i ≤ l.length → b ≤ i ∧ f ++ plainF (runsFrom (l.drop i) (cellC d) (i - b)) d = plainB l) ∧ (l.length < i → f = plainB l))
      ⟨[], false, 0, none, rfl, rfl, fun _ => ⟨Nat.le_refl _, rfl⟩, fun z => absurd z (by omega)⟩ ?_ ?_
    · rintro i σ H1 hi ⟨f, d, b, y5, rfl, rfl, hinv, _⟩
      obtain ⟨bi, hinv⟩ := hinv (by omega)
      have bl := plainB_len rl l1
      have fl : f.length ≤ 1560 := by
        have := congrArg List.length hinv
        rw [List.length_append] at this
        omega
      have szA : ∀ k, k ≤ 64 → (sOf f).length + (sOf (runT (tabW d) k)).length ≤ sizeLine := fun k hk => by
        have := runT_len (d := d) hk
        rw [sOf_len, sOf_len]
        exact sz (by omega)
      have eint : (0 + (i : Int)) - (b : Int) = ((i - b : Nat) : Int) := by omega
      -- a run ends
      have ends : ∀ (rest : Nat → List Nat → Prop), True := fun _ => trivial
      by_cases e : i = l.length
      · refine ⟨_, rfl, _, rfl, _, rfl, hl, rfl, _, rfl, iteD1 (vint.mpr (by rw [sOf_len]; omega)) (iteT ?_)⟩
        refine ⟨_, rfl, _, rfl, _, rfl, _, rfl, _, rfl, _, _, rfl, rfl, p, t0, t1, t2, d, i - b, _, rfl, eint, by omega, hp, h0, h1, _, _, rfl, rfl, szA _ (by omega), ?_⟩
        refine ⟨_, rfl, rfl, .inr ⟨_, rfl, _, _, _, rfl, rfl, two_len, flip_at d, _, rfl, ?_⟩⟩
        rw [List.drop_eq_nil_of_le (by omega)] at hinv
        have hinv : f ++ plainF [i - b] d = plainB l := hinv
        rw [plainF_one] at hinv
        refine ⟨f ++ runT (tabW d) (i - b), !d, i, some (.int (0 + (i : Int))), ?_, rfl, fun z => absurd z (by omega), fun _ => hinv⟩
        rw [sOf_app, cellS_eq (!d), Int.zero_add]
        rfl
      · have il : i < l.length := by omega
        have e1 : l[i]? = some l[i] := List.getElem?_eq_getElem il
        have at1 : atI (sOf l).cps.toList (0 + (i : Int)) = some l[i] := by
          rw [Int.zero_add]
          exact sOf_at e1
        rw [List.drop_eq_getElem_cons il] at hinv
        refine ⟨_, rfl, _, rfl, _, rfl, hl, rfl, _, rfl, iteD0 (fun z => e (by have := vint.mp z; rw [sOf_len] at this; omega)) ?_⟩
        refine ⟨_, rfl, _, rfl, _, _, _, rfl, rfl, hl, at1, _, rfl, rfl, _, rfl, ?_⟩
        rw [cellS_eq d]
        have rx := rl l[i] (List.getElem_mem il)
        by_cases ex : l[i] = cellC d
        · refine iteN0 (vstr1.mpr ex) ?_
          have no : ¬ l[i] = oth (cellC d) := by
            rw [ex, oth_cellC]
            cases d <;> decide
          have hinv : f ++ plainF (if l[i] = oth (cellC d) then (i - b) :: runsFrom (l.drop (i + 1)) (oth (cellC d)) 1 else runsFrom (l.drop (i + 1)) (cellC d) (i - b + 1)) d = plainB l := hinv
          rw [if_neg no] at hinv
          refine ⟨f, d, b, some (.int (0 + (i : Int))), by rw [← cellS_eq]; rfl, rfl, fun _ => ⟨by omega, ?_⟩, fun z => absurd z (by omega)⟩
          rw [show i + 1 - b = i - b + 1 by omega]
          exact hinv
        · refine iteN1 (fun z => ex (vstr1.mp z)) ?_
          have yes : l[i] = oth (cellC d) := by
            rw [oth_cellC]
            rcases rx with z | z
            · cases d
              · exact absurd z ex
              · exact z
            · cases d
              · exact z
              · exact absurd z ex
          have hinv : f ++ plainF (if l[i] = oth (cellC d) then (i - b) :: runsFrom (l.drop (i + 1)) (oth (cellC d)) 1 else runsFrom (l.drop (i + 1)) (cellC d) (i - b + 1)) d = plainB l := hinv
          rw [if_pos yes] at hinv
          rw [← cellS_eq d]
          refine ⟨_, rfl, _, rfl, _, rfl, _, rfl, _, rfl, _, _, rfl, rfl, p, t0, t1, t2, d, i - b, _, rfl, eint, by omega, hp, h0, h1, _, _, rfl, rfl, szA _ (by omega), ?_⟩
          refine ⟨_, rfl, rfl, .inr ⟨_, rfl, _, _, _, rfl, rfl, two_len, flip_at d, _, rfl, ?_⟩⟩
          refine ⟨f ++ runT (tabW d) (i - b), !d, i, some (.int (0 + (i : Int))), ?_, rfl, fun _ => ⟨by omega, ?_⟩, fun z => absurd z (by omega)⟩
          · rw [sOf_app, cellS_eq (!d), Int.zero_add]
            rfl
          · rw [show i + 1 - i = 1 by omega, List.append_assoc]
            rw [oth_cellC] at hinv
            exact hinv
    · rintro σ H1 ⟨f, d, b, y5, rfl, rfl, _, hinv⟩
      rw [hinv (by omega)]
      exact ⟨_, rfl, q⟩

/-! ### a bag, tables that may grow -/
def BxN (p b : Addr) (H H' : Hp) : Prop := BagAt H' b ∧ LamX.Tabs (TT p) H' ∧ ∀ a o, a ≠ b → H a = some o → (∀ ps, o ≠ .tbl ps) → H' a = some o
theorem BxN.bx {p b : Addr} {H H1 H2 : Hp} (h : BxN p b H H1) (x : Bx b H1 H2) : BxN p b H H2 := by
  refine ⟨x.1, ?_, fun a o n e nt => x.2 a o n (h.2.2 a o n e nt)⟩
  obtain ⟨g, s, e, _⟩ := h.1
  exact tabs_but (q := b) h.2.1 e (fun c o n z => x.2 c o n z)
theorem bag_ext {b : Addr} {H H' : Hp} (h : BagAt H b) (e : LamX.ExtN H H') : BagAt H' b := by
  obtain ⟨g, s, h, r⟩ := h
  exact ⟨g, s, e _ _ h (fun ps z => by cases z), r⟩
theorem BxN.ext {p b : Addr} {H H1 H2 : Hp} (h : BxN p b H H1) (e : LamX.ExtN H1 H2) (t : LamX.Tabs (TT p) H2) : BxN p b H H2 := ⟨bag_ext h.1 e, t, fun a o n z nt => e _ _ (h.2.2 a o n z nt) nt⟩
theorem BxN.same {p b : Addr} {H H1 H2 : Hp} (h : BxN p b H H1) (e : Same H1 H2) : BxN p b H H2 := h.ext (extN_of e) (tabs_same h.2.1 e)
theorem BxN.new {p b : Addr} {H : Hp} {g s : Int} (hb : H b = none) (g0 : 0 ≤ g) (s0 : 0 ≤ s) (s1 : s < 1000000000000) (t : LamX.Tabs (TT p) H) : BxN p b H (upd H b (.lst [.int g, .int s])) := ⟨BagAt.new g0 s0 s1, tabs_same t (same_new hb), fun a o _ e _ => same_new hb _ _ e⟩
theorem BxN.back {p b : Addr} {H H' : Hp} (h : BxN p b H H') (n : H b = none) : LamX.ExtN H H' := fun a o e nt => h.2.2 a o (ne_of_none e n) e nt
theorem extN_seq {K : PySem.W.Frag} {H H' : Hp} {a : Addr} {xs : List V} (e : LamX.ExtN H H') (h : SqL K H a xs) : SqL K H' a xs := by
  rcases h with (h | ⟨o, h⟩) | h
  · exact .inl (.inl (e _ _ h (fun ps z => by cases z)))
  · exact .inl (.inr ⟨o, e _ _ h (fun ps z => by cases z)⟩)
  · exact .inr h

def Br (x : V) : Prop := ∃ n : Nat, x = .int (n : Int) ∧ 8 ≤ n ∧ n ≤ 64
theorem br_of {i : Int} (h0 : 8 ≤ i) (h1 : i ≤ 64) : Br (.int i) := by
  obtain ⟨n, rfl⟩ := Int.eq_ofNat_of_zero_le (show 0 ≤ i by omega)
  exact ⟨n, rfl, by omega, by omega⟩
theorem pick {xs : List V} (h : ∀ x ∈ xs, Br x) {j : Int} (j0 : 0 ≤ j) (j1 : j < (xs.length : Int)) : ∃ v, atI xs j = some v ∧ Br v := by
  obtain ⟨k, rfl⟩ := Int.eq_ofNat_of_zero_le j0
  have hk : k < xs.length := by omega
  exact ⟨xs[k], atI_nat (List.getElem?_eq_getElem hk), h _ (List.getElem_mem hk)⟩
theorem pick4 {d1 d2 : Int} (a0 : 0 ≤ d1) (a1 : d1 < 57) (c0 : 0 ≤ d2) (c1 : d2 < 57) {j : Int} (j0 : 0 ≤ j) (j1 : j < 4) : ∃ v, atI [V.int 8, .int 64, .int (8 + d1), .int (8 + d2)] j = some v ∧ Br v := pick (by
  intro x hx
  rcases List.mem_cons.mp hx with rfl | hx
  · exact br_of (by decide) (by decide)
  rcases List.mem_cons.mp hx with rfl | hx
  · exact br_of (by decide) (by decide)
  rcases List.mem_cons.mp hx with rfl | hx
  · exact br_of (by omega) (by omega)
  rcases List.mem_cons.mp hx with rfl | hx
  · exact br_of (by omega) (by omega)
  · cases hx) j0 j1

--SPLIT
/-! ### bits told of things -/
def NoTxt (K : PySem.W.Frag) (H : Hp) (v : V) : Prop := ∃ t, TyOf K H v (.type t) ∧ t ∈ ["NoneType", "bool", "int", "list", "tuple"]
theorem isS_no {t : String} (h : t ∈ ["NoneType", "bool", "int", "list", "tuple"]) : PySem.W.kitOne K (.type t) (.type "str") = some false := by
  have : ∀ t ∈ ["NoneType", "bool", "int", "list", "tuple"], kitB t "str" = some false := by decide +kernel
  exact kit_ty (this t h)
theorem isS_yes : PySem.W.kitOne K (.type "str") (.type "str") = some true := kit_ty (by decide +kernel)
def spIsBits (K : PySem.W.Frag) : Sp := fun vs H Q _ => ∃ v : V, vs = [v] ∧ ((NoTxt K H v ∧ Q (.bl false) H) ∨ ∃ l : List Nat, v = .str (sOf l) ∧ l.length ≤ 50000 ∧ Q (.bl (isB l)) H)
theorem ok_is_bits {A : Ad} (T : Txt w K mg base A) : FnOk P w K mg base CX0 1 A.a_is_bits A.d_is_bits P_is_bits (spIsBits K) := by
  refine T.F_is_bits.ok sc_is_bits (fun vs H Q E h => ?_) (fun cdv Ar outer s H vs Q E hr h => ?_)
  · obtain ⟨v, rfl, _⟩ := h
    rfl
  · obtain ⟨v, rfl, h⟩ := h
    refine ⟨_, (pss_cons (ps_if (pt_not (pt_val (pe_callB (r := rIsi K) call_isi (by rfl) T.z_isinstance (by decide +kernel) (pa_cons (pv 0) (pa_cons (pe_bltn (v := .ty "str") (by rfl) T.z_str (by decide +kernel) rfl) pa_nil)))))
      (pss_one (ps_ret pe_bl)) pss_nil)
      (pss_one (ps_ret (pe_cmpR op_eq (pe_op op_add (pe_bm PySem.F.plainAttrs_str PySem.F.slot_str_count PySem.F.type_str_count mt_count (pv 0) (pa_cons pe_str pa_nil)) (pe_bm PySem.F.plainAttrs_str PySem.F.slot_str_count PySem.F.type_str_count mt_count (pv 0) (pa_cons pe_str pa_nil))) (pe_callB call_len_str (by rfl) T.z_len PySem.boot_len (pa_cons (pv 0) pa_nil)) (nomark _))))), ?_⟩
    rcases h with ⟨⟨t, ht, mt⟩, q⟩ | ⟨l, rfl, ll, q⟩
    · refine ⟨_, rfl, _, _, _, _, false, rfl, ClsV.ty _, TyX.base ht, isS_no mt, _, rfl, ?_⟩
      exact q
    · have hl : (sOf l).length ≤ sizeLine := by
        rw [sOf_len]
        exact sz (by omega)
      refine ⟨_, rfl, _, _, _, _, true, rfl, ClsV.ty _, TyX.base (.str _), isS_yes, _, rfl, ?_⟩
      refine ⟨_, rfl, rfl, _, _, rfl, rfl, _, rfl, rfl, _, _, rfl, rfl, _, _, rfl, rfl, _, rfl, _, rfl, hl, rfl, ?_⟩
      rw [← bits_counted] at q
      exact q

/-! ### what a table tells at a place -/
def spReadBy (C : Addr) : Sp := fun vs H Q E => ∃ (ta : Addr) (tb : List (List Nat)) (l : List Nat) (a : Nat) (x : Int), vs = [.ref ta, .str (sOf l), .int x] ∧ x = a ∧ H ta = some (.lst (tb.map sV)) ∧ a ≤ l.length ∧
  (∀ (r : Nat) u, tb[r]? = some u → u <+: l.drop a → ∀ H', Same H H' → Q (.int (r : Int)) H') ∧ ((∀ (r : Nat) u, tb[r]? = some u → ¬ u <+: l.drop a) → ∀ H', Same H H' → E (.ref C) none H')
theorem ok_read_by {A : Ad} (T : Txt w K mg base A) : FnOk P w K mg base (L2N.CX P w) 1 A.a_read_by A.d_read_by P_read_by (spReadBy A.x_NoTelling) := by
  refine Fp.okXN T.F_read_by sc_read_by (fun vs H Q E h => ?_) (fun cdv Ar outer s H vs Q E hr h => ?_)
  · obtain ⟨ta, tb, l, a, x, rfl, _⟩ := h
    rfl
  · obtain ⟨ta, tb, l, a, _, rfl, rfl, ht, al, q, qx⟩ := h
    refine ⟨_, (pss_cons (ps_for (passes_of rfl) rfl (pi_enum (by rfl) T.z_enumerate (pa_cons (pv 0) pa_nil)) (pg_tup (by rfl) (pgs_cons (pg_name (i := 3) sc_read_by.nd rfl (Or.inl rfl)) (pgs_cons (pg_name (i := 4) sc_read_by.nd rfl (Or.inl rfl)) pgs_nil)))
      (pss_one (ps_if (pt_val (pe_bm PySem.F.plainAttrs_str PySem.F.slot_str_startswith PySem.F.type_str_startswith mt_startswith3 (pv 1) (pa_cons (pv 4) (pa_cons (pv 2) pa_nil))))
      (pss_one (ps_ret (pv 3))) pss_nil)))
      (pss_one (L2N.ps_raise rfl (L2N.takes_of rfl rfl rfl rfl) (L2N.pmk_own PySem.F.excBase_ValueError T.xq_NoTelling T.xg_NoTelling T.xk_NoTelling (raises_own T.xs_NoTelling T.xt_NoTelling) (by rfl))))), ?_⟩
    refine ⟨_, rfl, ta, _, rfl, SqL.of ht, for_it (walk_enum (K := K) (a := ta) (xs := tb.map sV)) (fun i σ H' => ∃ y3 y4 : Option V, σ = [some (.ref ta), some (.str (sOf l)), some (.int (a : Int)), y3, y4] ∧ Same H H' ∧ ∀ (r : Nat) u, r < i → tb[r]? = some u → ¬ u <+: l.drop a) ⟨none, none, rfl, Same.refl H, fun r u h => absurd h (by omega)⟩ (fun i σ H' _ ⟨_, _, _, s, _⟩ => SqL.of (s _ _ ht)) ?_ ?_⟩
    · rintro i x σ H1 H2 hi ⟨y3, y4, rfl, sm, no⟩ ⟨Tq, u1, u2, rfl, hT, rfl, e1, e2⟩
      obtain rfl := Option.some.inj e1
      have e2 : (tb.map sV)[i]? = some u2 := e2
      rw [List.getElem?_map] at e2
      obtain ⟨u, hu, rfl⟩ : ∃ u, tb[i]? = some u ∧ sV u = u2 := by
        cases e : tb[i]? with
        | none =>
          rw [e] at e2
          cases e2
        | some u =>
          rw [e] at e2
          exact ⟨u, rfl, Option.some.inj e2⟩
      have sm2 : Same H (upd H1 Tq (.tup [.int (i : Nat), sV u])) := sm.trans (same_new hT)
      refine ⟨Tq, _, rfl, .inl (.inl upd_same), rfl, _, _, rfl, _, _, rfl, rfl, ?_⟩
      refine ⟨_, rfl, rfl, _, rfl, _, rfl, sOf l, sOf u, (a : Int), rfl, rfl, _, rfl, ?_⟩
      rw [starts_at al]
      by_cases z : u <+: l.drop a
      · refine iteD1 z ?_
        exact ⟨_, rfl, q i u hu z _ sm2⟩
      · refine iteD0 z ?_
        refine ⟨some (.int (i : Nat)), some (sV u), rfl, sm2, fun r v hr hv => ?_⟩
        by_cases e : r = i
        · subst e
          rw [hu] at hv
          cases hv
          exact z
        · exact no r v (by omega) hv
    · rintro σ H1 ⟨y3, y4, rfl, sm, no⟩
      rw [List.length_map] at no
      exact qx (fun r u hu => no r u (List.getElem?_eq_some_iff.mp hu).1 hu) H1 sm

/-! ### plain tellings read -/
theorem pf_tab (d : Bool) : PF (tabW d) := by
  cases d
  · exact ⟨by decide +kernel, by decide +kernel⟩
  · exact ⟨by decide +kernel, by decide +kernel⟩
def rdL (m : Nat) (l : List Nat) : Option (List Nat × Nat) := rdP tabW m l (m + 1) [] 0 false
def rtabL (d : Bool) (m : Nat) : List (List Nat) := (List.range (m + 1)).map fun r => runT (tabW d) r
theorem rtab_map (d : Bool) (m : Nat) : rtab d m = (rtabL d m).map sV := by
  unfold rtab rtabL
  rw [List.map_map]
  rfl
theorem rtabL_at {d : Bool} {m r : Nat} {u : List Nat} (h : (rtabL d m)[r]? = some u) : r ≤ m ∧ u = runT (tabW d) r := by
  unfold rtabL at h
  rw [List.getElem?_map] at h
  by_cases z : r < m + 1
  · rw [List.getElem?_range z] at h
    exact ⟨by omega, (Option.some.inj h).symm⟩
  · rw [List.getElem?_eq_none (by rw [List.length_range]; omega)] at h
    cases h
theorem rtabL_of {d : Bool} {m r : Nat} (h : r ≤ m) : (rtabL d m)[r]? = some (runT (tabW d) r) := by
  unfold rtabL
  rw [List.getElem?_map, List.getElem?_range (by omega)]
  rfl
def spReadPl (K : PySem.W.Frag) (p C : Addr) : Sp := fun vs H Q E => ∃ (v : V) (m : Nat) (x : Int), vs = [.int x, v] ∧ x = m ∧ m ≤ 64 ∧ LamX.Tabs (TT p) H ∧
  ((NoTxt K H v ∧ E (.ref C) none H) ∨ ∃ l : List Nat, v = .str (sOf l) ∧ l.length ≤ 50000 ∧ (isB l = false → E (.ref C) none H) ∧
    (isB l = true → rdL m l = none → ∀ H', LamX.ExtN H H' → LamX.Tabs (TT p) H' → E (.ref C) none H') ∧
    (isB l = true → ∀ row a, rdL m l = some (row, a) → ∀ q H', LamX.ExtN H H' → LamX.Tabs (TT p) H' → H' q = some (.tup [.str (sOf row), .int (a : Int)]) → Q (.ref q) H'))
theorem ok_read_plain {A : Ad} (T : Txt w K mg base A) : FnOk P w K mg base (L2N.CX P w) 6 A.a_read_plain A.d_read_plain P_read_plain (spReadPl K A.p_making_order A.x_NoTelling) := by
  have G_run_tables := ok_run_tables (P := P) (w := w) (base := base) T
  have G_is_bits := ok_is_bits (P := P) (w := w) (base := base) T
  have G_read_by := ok_read_by (P := P) (w := w) (base := base) T
  have G_other_cell := ok_other_cell (P := P) (w := w) (base := base) T
  refine Fp.okXN T.F_read_plain sc_read_plain (fun vs H Q E h => ?_) (fun cdv Ar outer s H vs Q E hr h => ?_)
  · obtain ⟨v, m, x, rfl, _⟩ := h
    rfl
  · obtain ⟨v, m, _, rfl, rfl, m1, hT, h⟩ := h
    refine ⟨_, (pss_cons (ps_if (pt_not (pt_val (pe_call G_is_bits (hr.mono (by decide)) (by rfl) T.g_is_bits T.F_is_bits.kp T.b_is_bits .nil pass0 (pa_cons (pv 1) pa_nil))))
      (pss_one (L2N.ps_raise rfl (L2N.takes_of rfl rfl rfl rfl) (L2N.pmk_own PySem.F.excBase_ValueError T.xq_NoTelling T.xg_NoTelling T.xk_NoTelling (raises_own T.xs_NoTelling T.xt_NoTelling) (by rfl)))) pss_nil)
      (pss_cons (ps_set (i := 2) sc_read_plain.nd rfl (Or.inl rfl) (pe_call G_run_tables (hr.mono (by decide)) (by rfl) T.g_run_tables T.F_run_tables.kp T.b_run_tables .nil pass0 (pa_cons (pv 0) pa_nil)))
      (pss_cons (ps_set (i := 3) sc_read_plain.nd rfl (Or.inl rfl) pe_str)
      (pss_cons (ps_set (i := 4) sc_read_plain.nd rfl (Or.inl rfl) pe_int)
      (pss_cons (ps_set (i := 5) sc_read_plain.nd rfl (Or.inl rfl) (pe_glob (v := .str (Str.ofString ".")) (by rfl) T.c_LIGHT ⟨_, rfl⟩))
      (pss_cons (ps_while (passes_of rfl) (pt_cmpR op_lt (pe_callB call_len_str (by rfl) T.z_len PySem.boot_len (pa_cons (pv 3) pa_nil)) (pv 0) (nomark _))
      (pss_cons (ps_set (i := 6) sc_read_plain.nd rfl (Or.inl rfl) (pe_callS G_read_by (hr.mono (by decide)) (by rfl) T.g_read_by T.F_read_by.kp T.b_read_by (fun σ => L2N.passAt (L2N.takes_of rfl rfl rfl rfl) σ) (pa_cons (pe_dget (hu_of hr) (pv 2) (pv 5) (fun _ _ => rfl)) (pa_cons (pv 1) (pa_cons (pv 4) pa_nil)))))
      (pss_cons (ps_if (PW.pt (pw_and (pt_cmpR op_eq (pv 6) pe_int (nomark _)) (pw_and1 (pt_cmpR op_gt (pv 4) pe_int (nomark _)))))
      (pss_one (L2N.ps_raise rfl (L2N.takes_of rfl rfl rfl rfl) (L2N.pmk_own PySem.F.excBase_ValueError T.xq_NoTelling T.xg_NoTelling T.xk_NoTelling (raises_own T.xs_NoTelling T.xt_NoTelling) (by rfl)))) pss_nil)
      (pss_cons (ps_if (pt_cmpR op_gt (pe_op op_add (pe_callB call_len_str (by rfl) T.z_len PySem.boot_len (pa_cons (pv 3) pa_nil)) (pv 6)) (pv 0) (nomark _))
      (pss_one (L2N.ps_raise rfl (L2N.takes_of rfl rfl rfl rfl) (L2N.pmk_own PySem.F.excBase_ValueError T.xq_NoTelling T.xg_NoTelling T.xk_NoTelling (raises_own T.xs_NoTelling T.xt_NoTelling) (by rfl)))) pss_nil)
      (pss_cons (ps_aug (i := 3) sc_read_plain.nd rfl (Or.inl rfl) (pe_op op_mul_str (pv 5) (pv 6)) iop_add_str)
      (pss_cons (ps_aug (i := 4) sc_read_plain.nd rfl (Or.inl rfl) (pe_callB call_len_str (by rfl) T.z_len PySem.boot_len (pa_cons (pe_ix (r := rIxL K) ix_list (pe_dget (hu_of hr) (pv 2) (pv 5) (fun _ _ => rfl)) (pv 6) (fun _ _ => rfl)) pa_nil)) iop_add)
      (pss_one (ps_set (i := 5) sc_read_plain.nd rfl (Or.inl rfl) (pe_call G_other_cell (hr.mono (by decide)) (by rfl) T.g_other_cell T.F_other_cell.kp T.b_other_cell .nil pass0 (pa_cons (pv 5) pa_nil))))))))))
      (pss_one (ps_ret (pe_tup (pa_cons (pv 3) (pa_cons (pv 4) pa_nil))))))))))), ?_⟩
    rcases h with ⟨no, qx⟩ | ⟨l, rfl, ll, qb, qn, qs⟩
    · refine ⟨_, rfl, v, rfl, .inl ⟨no, _, rfl, ?_⟩⟩
      exact qx
    refine ⟨_, rfl, _, rfl, .inr ⟨l, rfl, ll, _, rfl, ?_⟩⟩
    cases bl : isB l with
    | false => exact qb bl
    | true =>
    have qn := qn bl
    have qs := qs bl
    refine ⟨_, rfl, m, _, rfl, rfl, m1, hT, fun tp H1 e1 T1 hD => ?_⟩
    refine ⟨fun f σ H' => ∃ (row : List Nat) (a : Nat) (d : Bool) (y6 : Option V), σ = [some (.int (m : Int)), some (.str (sOf l)), some (.ref tp), some (.str (sOf row)), some (.int (a : Int)), some (.str (cellS d)), y6] ∧ Same H1 H' ∧ rdP tabW m l f row a d = rdL m l ∧ row.length ≤ m ∧ a ≤ l.length ∧ m + 1 ≤ row.length + f + (if a = 0 then 0 else 1),
      ⟨m + 1, [], 0, false, none, rfl, Same.refl _, rfl, Nat.zero_le _, Nat.zero_le _, by simp⟩, ?_⟩
    rintro f σ H2 ⟨row, a, d, y6, rfl, sm, hrd, lr, la, fu⟩
    have hlr : (sOf row).length ≤ sizeLine := by
      rw [sOf_len]
      exact sz (by omega)
    have e2 : LamX.ExtN H H2 := e1.trans (extN_of sm)
    have T2 := tabs_same T1 sm
    refine ⟨_, rfl, _, rfl, hlr, _, rfl, _, _, rfl, rfl, _, rfl, ?_⟩
    rw [sOf_len]
    by_cases z : row.length < m
    · refine iteD1 (by omega) ?_
      have f1 : 1 ≤ f := by
        revert fu
        split <;> omega
      obtain ⟨g, rfl⟩ : ∃ g, f = g + 1 := ⟨f - 1, by omega⟩
      obtain ⟨tq, dg, htq⟩ := (hD.ext (extN_of sm)).get d
      rw [rtab_map] at htq
      refine ⟨fun σ' H' => ∃ m', m' < g + 1 ∧ ∃ (row : List Nat) (a : Nat) (d : Bool) (y6 : Option V), σ' = [some (.int (m : Int)), some (.str (sOf l)), some (.ref tp), some (.str (sOf row)), some (.int (a : Int)), some (.str (cellS d)), y6] ∧ Same H1 H' ∧ rdP tabW m l m' row a d = rdL m l ∧ row.length ≤ m ∧ a ≤ l.length ∧ m + 1 ≤ row.length + m' + (if a = 0 then 0 else 1), fun σ' H' h => h, ?_⟩
      refine ⟨_, rfl, _, rfl, _, _, rfl, dg, _, rfl, _, rfl, tq, rtabL d m, l, a, _, rfl, rfl, htq, la, (fun r u hu pu H3 s3 => ?_), fun no H3 s3 => ?_⟩
      · obtain ⟨rm, rfl⟩ := rtabL_at hu
        have ra : runAt (tabW d) l a = some r := (runAt_some (pf_tab d)).mpr ⟨by omega, pu⟩
        have sm3 := sm.trans s3
        have e3 : LamX.ExtN H H3 := e1.trans (extN_of sm3)
        have T3 := tabs_same T1 sm3
        by_cases b : m < row.length + r ∨ (r = 0 ∧ 0 < a)
        · have bad := rdP_bad (W := tabW) (f := g) z ra b
          rw [hrd] at bad
          have qE := qn bad H3 e3 T3
          by_cases r0 : r = 0
          · refine ⟨_, rfl, rfl, _, rfl, iteD1 (vint.mpr (by omega)) ⟨_, rfl, _, _, rfl, rfl, _, rfl, ?_⟩⟩
            have a0 : 0 < a := by
              rcases b with y | y
              · omega
              · exact y.2
            exact iteD1 (by omega) qE
          · refine ⟨_, rfl, rfl, _, rfl, iteD0 (fun y => r0 (by have := vint.mp y; omega)) ?_⟩
            refine ⟨_, rfl, _, rfl, hlr, _, rfl, _, _, rfl, rfl, _, rfl, _, _, rfl, rfl, _, rfl, ?_⟩
            rw [sOf_len]
            refine iteD1 ?_ qE
            rcases b with y | y
            · omega
            · exact absurd y.1 r0
        · have go := rdP_step (W := tabW) (f := g) z ra b
          rw [hrd] at go
          have rp := runT_pos (pf_tab d) (r := r) (by omega)
          have lpu := pu.length_le
          rw [List.length_drop] at lpu
          have l24 := runT_len (d := d) (r := r) (by omega)
          obtain ⟨tq3, dg3, htq3⟩ := (hD.ext (extN_of sm3)).get d
          refine ⟨_, rfl, rfl, _, rfl, iteAndNo ?_ (fun y rest => ⟨_, rfl, _, _, rfl, rfl, _, rfl, iteD0 (fun a0 => b (.inr ⟨by have := vint.mp y; omega, by omega⟩)) rest⟩)⟩
          refine ⟨_, rfl, _, rfl, hlr, _, rfl, _, _, rfl, rfl, _, rfl, _, _, rfl, rfl, _, rfl, iteD0 (by rw [sOf_len]; intro y; exact b (.inl (by omega))) ?_⟩
          refine ⟨_, rfl, _, rfl, _, rfl, cellC d, _, (by rw [cellS_eq]), rfl, ⟨by omega, by omega⟩, _, _, rfl, rfl, ?_, ?_⟩
          · rw [sOf_len, sOf_len, List.length_replicate]
            exact sz (by omega)
          rw [sOf_app, Int.toNat_natCast]
          refine ⟨_, rfl, _, rfl, _, rfl, _, _, rfl, dg3, _, rfl, _, _, _, sV (runT (tabW d) r), rfl, rfl, SqL.of htq3, atI_nat (rtab_at rm), _, rfl, (by rw [sOf_len]; exact sz (by omega)), _, _, rfl, rfl, ?_⟩
          rw [sOf_len]
          refine ⟨_, rfl, cellC d, (by rw [cellS_eq]; rfl), ?_⟩
          rw [oth_cellC, ← cellS_eq]
          refine ⟨g, by omega, row ++ List.replicate r (cellC d), a + (runT (tabW d) r).length, !d, some (.int (r : Int)), rfl, sm3, go.symm, ?_, by omega, ?_⟩
          · rw [List.length_append, List.length_replicate]
            omega
          · rw [List.length_append, List.length_replicate, if_neg (by omega)]
            by_cases r0 : r = 0
            · have a0 : a = 0 := by
                rcases Nat.eq_zero_or_pos a with y | y
                · exact y
                · exact absurd (.inr ⟨r0, y⟩) b
              rw [if_pos a0] at fu
              omega
            · revert fu
              split <;> omega
      · have nn : runAt (tabW d) l a = none ∨ ∃ r, runAt (tabW d) l a = some r ∧ m < r := by
          cases q : runAt (tabW d) l a with
          | none => exact .inl rfl
          | some r =>
            have h := (runAt_some (pf_tab d)).mp q
            refine .inr ⟨r, rfl, ?_⟩
            rcases Nat.lt_or_ge m r with y | y
            · exact y
            · exact absurd h.2 (no r _ (rtabL_of y))
        have bad : rdL m l = none := by
          rw [← hrd]
          rcases nn with y | ⟨r, y, y2⟩
          · exact rdP_none z y
          · exact rdP_bad z y (.inl (by omega))
        exact qn bad H3 (e1.trans (extN_of (sm.trans s3))) (tabs_same T1 (sm.trans s3))
    · refine iteD0 (by omega) ?_
      rw [rdP_full (by omega)] at hrd
      refine ⟨_, rfl, _, rfl, (by show 2 ≤ sizeLine; decide), fun q hq => ?_⟩
      have s9 : Same H2 (upd H2 q (.tup [.str (sOf row), .int (a : Int)])) := same_new hq
      exact qs row a hrd.symm q _ (e2.trans (extN_of s9)) (tabs_same T2 s9) upd_same

--SPLIT
/-! ### the law's run at a place -/
def spRunAt : Sp := fun vs H Q _ => ∃ (p : Addr) (d : Bool) (l : List Nat) (a : Nat) (x : Int), vs = [.ref p, .str (cellS d), .str (sOf l), .int x] ∧ x = a ∧ TabsAt H p ∧ l.length ≤ 50000 ∧ a ≤ l.length ∧
  (runAt (tabW d) l a = none → Q .non H) ∧ (∀ r, runAt (tabW d) l a = some r → ∀ q H', H q = none → Same H H' → H' q = some (.tup [.int (r : Int), .int ((a + (runT (tabW d) r).length : Nat) : Int)]) → Q (.ref q) H')
theorem word_cut {l w : List Nat} {a : Nat} : (V.str (cutS (sOf l) (some (a : Int)) (some ((a : Int) + ((sOf w).length : Int)))) = V.str (sOf w)) ↔ w <+: l.drop a := by
  rw [cut_at, sOf_len, vstr, take_pref]
theorem ok_run_at {A : Ad} (T : Txt w K mg base A) : FnOk P w K mg base CX0 1 A.a_run_at A.d_run_at P_run_at spRunAt := by
  refine T.F_run_at.ok sc_run_at (fun vs H Q E h => ?_) (fun cdv Ar outer s H vs Q E hr h => ?_)
  · obtain ⟨p, d, l, a, x, rfl, _⟩ := h
    rfl
  · obtain ⟨p, d, l, a, _, rfl, rfl, ⟨t0, t1, t2, hp, h0, h1, h2⟩, ll, al, qn, qs⟩ := h
    refine ⟨_, (pss_cons (ps_set (i := 4) sc_run_at.nd rfl (Or.inl rfl) (pe_ix (r := rIxL K) ix_list (pv 0) (pe_callTy call_int1 (by rfl) T.z_int (by decide +kernel) (pa_cons (pe_cmpR op_eq (pv 1) pe_str (nomark _)) pa_nil)) (fun _ _ => rfl)))
      (pss_cons (ps_for PassesOwn.never rfl (pi_range1 (by rfl) T.z_range (pa_cons pe_int pa_nil)) (pg_name (i := 5) sc_run_at.nd rfl (Or.inl rfl))
      (pss_one (ps_if (pt_cmpR op_eq (pe_slice sl_str (pv 2) (po_some (pv 3)) (po_some (pe_op op_add (pv 3) (pe_callB call_len_str (by rfl) T.z_len PySem.boot_len (pa_cons (pe_ix (r := rIxL K) ix_list (pv 4) (pv 5) (fun _ _ => rfl)) pa_nil))))) (pe_ix (r := rIxL K) ix_list (pv 4) (pv 5) (fun _ _ => rfl)) (nomark _))
      (pss_cons (ps_set (i := 3) sc_run_at.nd rfl (Or.inl rfl) (pe_op op_add (pv 3) (pe_callB call_len_str (by rfl) T.z_len PySem.boot_len (pa_cons (pe_ix (r := rIxL K) ix_list (pv 4) (pv 5) (fun _ _ => rfl)) pa_nil))))
      (pss_cons (ps_if (pt_cmpR op_lt (pv 5) pe_int (nomark _))
      (pss_one (ps_ret (pe_tup (pa_cons (pv 5) (pa_cons (pv 3) pa_nil))))) pss_nil)
      (pss_cons (ps_for PassesOwn.never rfl (pi_range1 (by rfl) T.z_range (pa_cons pe_int pa_nil)) (pg_name (i := 6) sc_run_at.nd rfl (Or.inl rfl))
      (pss_one (ps_if (pt_cmpR op_eq (pe_slice sl_str (pv 2) (po_some (pv 3)) (po_some (pe_op op_add (pv 3) (pe_callB call_len_str (by rfl) T.z_len PySem.boot_len (pa_cons (pe_ix (r := rIxL K) ix_list (pv 4) (pv 6) (fun _ _ => rfl)) pa_nil))))) (pe_ix (r := rIxL K) ix_list (pv 4) (pv 6) (fun _ _ => rfl)) (nomark _))
      (pss_one (ps_ret (pe_tup (pa_cons (pe_op op_add (pe_op op_mul pe_int (pe_op op_sub (pv 5) pe_int)) (pv 6)) (pa_cons (pe_op op_add (pv 3) (pe_callB call_len_str (by rfl) T.z_len PySem.boot_len (pa_cons (pe_ix (r := rIxL K) ix_list (pv 4) (pv 6) (fun _ _ => rfl)) pa_nil))) pa_nil))))) pss_nil)))
      (pss_one (ps_ret pe_non))))) pss_nil)))
      (pss_one (ps_ret pe_non)))), ?_⟩
    have hl : (sOf l).length ≤ sizeLine := by
      rw [sOf_len]
      exact sz (by omega)
    obtain ⟨tt, et, ht⟩ : ∃ tt, atI [V.ref t0, V.ref t1, V.ref t2] (if decide (V.str (cellS d) = V.str (Str.ofString "#")) = true then (1 : Int) else 0) = some (.ref tt) ∧ H tt = some (.lst ((tabW d).map sV)) := by
      cases d with
      | false => exact ⟨t0, rfl, h0⟩
      | true => exact ⟨t1, rfl, h1⟩
    refine ⟨_, rfl, _, rfl, rfl, .inr ⟨_, rfl, _, _, _, .ref tt, rfl, rfl, SqL.of hp, et, ?_⟩⟩
    refine ⟨_, rfl, by decide, by decide, for_range (lo := 0) (n := 20) (fun i σ H' => ∃ y5 y6 : Option V, σ = [some (.ref p), some (.str (cellS d)), some (.str (sOf l)), some (.int (a : Int)), some (.ref tt), y5, y6] ∧ H' = H ∧ ∀ j, j < i → ¬ (tabW d).getD j [] <+: l.drop a) ⟨none, none, rfl, rfl, fun j h => absurd h (by omega)⟩ ?_ ?_⟩
    · rintro i σ H1 hi ⟨y5, y6, rfl, rfl, no⟩
      have w1 := tabW_at (d := d) (r := i) hi
      have A1 : atI ((tabW d).map sV) (0 + (i : Int)) = some (sV ((tabW d).getD i [])) := by
        rw [Int.zero_add]
        exact atI_nat w1.1
      have wl : (sOf ((tabW d).getD i [])).length ≤ sizeLine := by
        rw [sOf_len]
        exact sz (by omega)
      refine ⟨_, rfl, _, rfl, _, rfl, _, rfl, _, rfl, _, rfl, _, _, _, _, rfl, rfl, SqL.of ht, A1, _, rfl, wl, _, _, rfl, rfl, _, rfl, _, rfl, hl, _, rfl, _, rfl, _, _, _, _, rfl, rfl, SqL.of ht, A1, rfl, _, rfl, ?_⟩
      by_cases z : (tabW d).getD i [] <+: l.drop a
      · refine iteD1 (word_cut.mpr z) ?_
        refine ⟨_, rfl, _, rfl, _, rfl, _, _, _, _, rfl, rfl, SqL.of ht, A1, _, rfl, wl, _, _, rfl, rfl, ?_⟩
        rw [sOf_len]
        refine ⟨_, rfl, _, _, rfl, rfl, _, rfl, ?_⟩
        by_cases i16 : i < 16
        · refine iteD1 (by omega) ?_
          have er : runT (tabW d) i = (tabW d).getD i [] := by
            unfold runT
            rw [if_pos i16]
          refine ⟨_, rfl, _, rfl, (by show 2 ≤ sizeLine; decide), fun q hq => ?_⟩
          refine qs i ((runAt_some (pf_tab d)).mpr ⟨by omega, by rw [er]; exact z⟩) q _ hq (same_new hq) ?_
          rw [upd_same, er, Int.zero_add]
          rfl
        · refine iteD0 (by omega) ?_
          generalize ha2 : a + ((tabW d).getD i []).length = a2
          have ea2 : (a : Int) + (((tabW d).getD i []).length : Int) = (a2 : Int) := by omega
          have zl := z.length_le
          rw [List.length_drop] at zl
          have hd : ∀ r, r < 80 → runT (tabW d) r <+: l.drop a → hdW r = i := fun r hr hp2 => pref_same (pf_tab d) (hdW_lt hr) hi ((run_parts _ _ _).mp hp2).1 z
          refine ⟨_, rfl, by decide, by decide, for_range (lo := 0) (n := 16) (fun e σ H' => ∃ y6 : Option V, σ = [some (.ref p), some (.str (cellS d)), some (.str (sOf l)), some (.int (a2 : Int)), some (.ref tt), some (.int (0 + (i : Int))), y6] ∧ H' = H1 ∧ ∀ j, j < e → ¬ (tabW d).getD j [] <+: l.drop a2) ⟨y6, (by rw [← ea2]; rfl), rfl, fun j h => absurd h (by omega)⟩ ?_ ?_⟩
          · rintro e σ H2 he ⟨y6, rfl, rfl, no2⟩
            have w2 := tabW_at (d := d) (r := e) (by omega)
            have A2 : atI ((tabW d).map sV) (0 + (e : Int)) = some (sV ((tabW d).getD e [])) := by
              rw [Int.zero_add]
              exact atI_nat w2.1
            have wl2 : (sOf ((tabW d).getD e [])).length ≤ sizeLine := by
              rw [sOf_len]
              exact sz (by omega)
            refine ⟨_, rfl, _, rfl, _, rfl, _, rfl, _, rfl, _, rfl, _, _, _, _, rfl, rfl, SqL.of ht, A2, _, rfl, wl2, _, _, rfl, rfl, _, rfl, _, rfl, hl, _, rfl, _, rfl, _, _, _, _, rfl, rfl, SqL.of ht, A2, rfl, _, rfl, ?_⟩
            by_cases y : (tabW d).getD e [] <+: l.drop a2
            · refine iteD1 (word_cut.mpr y) ?_
              have er : runT (tabW d) (16 * (i - 15) + e) = (tabW d).getD i [] ++ (tabW d).getD e [] := by
                unfold runT
                rw [if_neg (by omega), show 15 + (16 * (i - 15) + e) / 16 = i by omega, show 16 * (i - 15) + e - (16 * (i - 15) + e) / 16 * 16 = e by omega]
              have rp : runT (tabW d) (16 * (i - 15) + e) <+: l.drop a := by
                rw [er, pref_tail]
                refine ⟨z, ?_⟩
                rw [List.drop_drop, ha2]
                exact y
              refine ⟨_, rfl, _, _, rfl, rfl, _, _, rfl, rfl, .inl ⟨by decide, by decide⟩, _, rfl, _, _, rfl, rfl, _, rfl, _, rfl, _, rfl, _, _, _, _, rfl, rfl, SqL.of ht, A2, _, rfl, wl2, _, _, rfl, rfl, (by show 2 ≤ sizeLine; decide), fun q hq => ?_⟩
              refine qs (16 * (i - 15) + e) ((runAt_some (pf_tab d)).mpr ⟨by omega, rp⟩) q _ hq (same_new hq) ?_
              rw [upd_same, er, List.length_append, ← Nat.add_assoc, ha2, sOf_len]
              have e1 : (16 : Int) * (0 + (i : Int) - 15) + (0 + (e : Int)) = ((16 * (i - 15) + e : Nat) : Int) := by omega
              show some (HO.tup [V.int ((16 : Int) * (0 + (i : Int) - 15) + (0 + (e : Int))), _]) = _
              rw [e1]
              rfl
            · refine iteD0 (fun x => y (word_cut.mp x)) ?_
              refine ⟨_, rfl, rfl, fun j hj => ?_⟩
              by_cases ej : j = e
              · rw [ej]
                exact y
              · exact no2 j (by omega)
          · rintro σ H2 ⟨y6, rfl, rfl, no2⟩
            refine qn (runAt_none.mpr fun r hr hp2 => ?_)
            have e1 := hd r hr hp2
            have pr := (run_parts _ _ _).mp hp2
            have r16 : 16 ≤ r := by
              unfold hdW at e1
              revert e1
              split <;> omega
            have t := pr.2 r16
            rw [e1, List.drop_drop, ha2] at t
            exact no2 _ (by omega) t
      · refine iteD0 (fun x => z (word_cut.mp x)) ?_
        refine ⟨_, _, rfl, rfl, fun j hj => ?_⟩
        by_cases ej : j = i
        · rw [ej]
          exact z
        · exact no j (by omega)
    · rintro σ H1 ⟨y5, y6, rfl, rfl, no⟩
      exact qn (runAt_none.mpr fun r hr hp2 => no _ (hdW_lt hr) ((run_parts _ _ _).mp hp2).1)

/-! ### the law reads a plain telling -/
def spLRdP (K : PySem.W.Frag) : Sp := fun vs H Q _ => ∃ (p : Addr) (m : Nat) (l : List Nat) (x : Int), vs = [.ref p, .int x, .str (sOf l)] ∧ x = m ∧ m ≤ 64 ∧ TabsAt H p ∧ l.length ≤ 50000 ∧
  (rdL m l = none → ∀ H', Same H H' → Q .non H') ∧ (∀ row a, rdL m l = some (row, a) → ∀ q H', Same H H' → H' q = some (.tup [.str (sOf row), .int (a : Int)]) → Q (.ref q) H')
theorem tabs_s {H H' : Hp} {p : Addr} (h : TabsAt H p) (s : Same H H') : TabsAt H' p := h.ext (extN_of s)
theorem ok_read_plain_l {A : Ad} (T : Txt w K mg base A) : FnOk P w K mg base CX0 2 A.a_read_plain_l A.d_read_plain_l P_read_plain_l (spLRdP K) := by
  have G_run_at := ok_run_at (P := P) (w := w) (base := base) T
  refine T.F_read_plain_l.ok sc_read_plain_l (fun vs H Q E h => ?_) (fun cdv Ar outer s H vs Q E hr h => ?_)
  · obtain ⟨p, m, l, x, rfl, _⟩ := h
    rfl
  · obtain ⟨p, m, l, _, rfl, rfl, m1, hTA, ll, qn, qs⟩ := h
    refine ⟨_, (pss_cons (ps_set (i := 3) sc_read_plain_l.nd rfl (Or.inl rfl) pe_str)
      (pss_cons (ps_set (i := 4) sc_read_plain_l.nd rfl (Or.inl rfl) pe_str)
      (pss_cons (ps_set (i := 5) sc_read_plain_l.nd rfl (Or.inl rfl) pe_int)
      (pss_cons (ps_for PassesOwn.never rfl (pi_range1 (by rfl) T.z_range (pa_cons (pe_op op_add (pv 1) pe_int) pa_nil)) (pg_name (i := 6) sc_read_plain_l.nd rfl (Or.inl rfl))
      (pss_one (ps_if (pt_cmpR op_lt (pe_callB call_len_str (by rfl) T.z_len PySem.boot_len (pa_cons (pv 3) pa_nil)) (pv 1) (nomark _))
      (pss_cons (ps_set (i := 7) sc_read_plain_l.nd rfl (Or.inl rfl) (pe_call G_run_at (hr.mono (by decide)) (by rfl) T.g_run_at T.F_run_at.kp T.b_run_at .nil pass0 (pa_cons (pv 0) (pa_cons (pv 4) (pa_cons (pv 2) (pa_cons (pv 5) pa_nil))))))
      (pss_cons (ps_if (PW.pt (pw_or (pt_cmpR op_isN (pv 7) pe_non (nomark _)) (pw_or (pt_cmpR op_gt (pe_op op_add (pe_callB call_len_str (by rfl) T.z_len PySem.boot_len (pa_cons (pv 3) pa_nil)) (pe_ix (r := rIxT K) ix_tup (pv 7) pe_int (fun _ _ => rfl))) (pv 1) (nomark _)) (pw_or1 (PW.pt (pw_and (pt_cmpR op_eq (pe_ix (r := rIxT K) ix_tup (pv 7) pe_int (fun _ _ => rfl)) pe_int (nomark _)) (pw_and1 (pt_cmpR op_gt (pv 6) pe_int (nomark _)))))))))
      (pss_one (ps_ret pe_non)) pss_nil)
      (pss_cons (ps_set (i := 3) sc_read_plain_l.nd rfl (Or.inl rfl) (pe_op op_add_str (pv 3) (pe_op op_mul_str (pv 4) (pe_ix (r := rIxT K) ix_tup (pv 7) pe_int (fun _ _ => rfl)))))
      (pss_cons (ps_set (i := 5) sc_read_plain_l.nd rfl (Or.inl rfl) (pe_ix (r := rIxT K) ix_tup (pv 7) pe_int (fun _ _ => rfl)))
      (pss_one (ps_set (i := 4) sc_read_plain_l.nd rfl (Or.inl rfl) (pe_ix ix_str pe_str (pe_callTy call_int1 (by rfl) T.z_int (by decide +kernel) (pa_cons (pe_cmpR op_eq (pv 4) pe_str (nomark _)) pa_nil)) (fun _ _ => rfl)))))))) pss_nil)))
      (pss_one (ps_ret (pe_tup (pa_cons (pv 3) (pa_cons (pv 5) pa_nil))))))))), ?_⟩
    refine ⟨_, rfl, _, _, rfl, rfl, _, rfl, by omega, by omega, ?_⟩
    rw [show ((m : Int) + 1).toNat = m + 1 by omega]
    refine for_range (lo := 0) (n := m + 1) (fun i σ H' => ∃ (row : List Nat) (a : Nat) (d : Bool) (y6 y7 : Option V), σ = [some (.ref p), some (.int (m : Int)), some (.str (sOf l)), some (.str (sOf row)), some (.str (cellS d)), some (.int (a : Int)), y6, y7] ∧ Same H H' ∧ rdP tabW m l (m + 1 - i) row a d = rdL m l ∧ row.length ≤ m ∧ a ≤ l.length ∧ (row.length < m → (0 < a ↔ 0 < i))) ⟨[], 0, false, none, none, rfl, Same.refl H, rfl, Nat.zero_le _, Nat.zero_le _, fun _ => Iff.rfl⟩ ?_ ?_
    · rintro i σ H1 hi ⟨row, a, d, y6, y7, rfl, sm, hrd, lr, la, ia⟩
      have hlr : (sOf row).length ≤ sizeLine := by
        rw [sOf_len]
        exact sz (by omega)
      rw [show m + 1 - i = (m - i) + 1 by omega] at hrd
      refine ⟨_, rfl, _, rfl, hlr, _, rfl, _, _, rfl, rfl, _, rfl, ?_⟩
      rw [sOf_len]
      by_cases z : row.length < m
      · refine iteD1 (by omega) ?_
        have ia := ia z
        refine ⟨_, rfl, _, rfl, _, rfl, _, rfl, p, d, l, a, _, rfl, rfl, tabs_s hTA sm, ll, la, (fun e => ?_), fun r e q H2 fq s2 hq => ?_⟩
        · refine ⟨_, rfl, rfl, _, rfl, iteD1 rfl ?_⟩
          exact qn (by rw [← hrd]; exact rdP_none z e) H1 sm
        · have sm2 := sm.trans s2
          have sq : SqT K H2 q [.int (r : Int), .int ((a + (runT (tabW d) r).length : Nat) : Int)] := .inl (.inl hq)
          have pr := (runAt_some (pf_tab d)).mp e
          have lpu := pr.2.length_le
          rw [List.length_drop] at lpu
          have rp := runT_pos (pf_tab d) pr.1
          refine ⟨_, rfl, rfl, _, rfl, iteD0 (fun y => by cases y) ?_⟩
          refine ⟨_, rfl, _, rfl, hlr, _, rfl, _, _, _, .int (r : Int), rfl, rfl, sq, atI_nat (j := 0) rfl, _, _, rfl, rfl, _, rfl, _, _, rfl, rfl, _, rfl, ?_⟩
          rw [sOf_len]
          by_cases b1 : m < row.length + r
          · refine iteD1 (by omega) ?_
            exact qn (by rw [← hrd]; exact rdP_bad z e (.inl b1)) H2 sm2
          · refine iteD0 (by omega) ?_
            by_cases b2 : r = 0 ∧ 0 < a
            · refine ⟨_, rfl, _, _, _, .int (r : Int), rfl, rfl, sq, atI_nat (j := 0) rfl, rfl, _, rfl, iteD1 (vint.mpr (by omega)) ⟨_, rfl, _, _, rfl, rfl, _, rfl, ?_⟩⟩
              have i0 := ia.mp b2.2
              refine iteD1 (by omega) ?_
              exact qn (by rw [← hrd]; exact rdP_bad z e (.inr b2)) H2 sm2
            · refine ⟨_, rfl, _, _, _, .int (r : Int), rfl, rfl, sq, atI_nat (j := 0) rfl, rfl, _, rfl, iteAndNo ?_ (fun y rest => ⟨_, rfl, _, _, rfl, rfl, _, rfl, iteD0 (fun i0 => b2 ⟨by have := vint.mp y; omega, ia.mpr (by omega)⟩) rest⟩)⟩
              have go := rdP_step (W := tabW) (f := m - i) z e (fun y => y.elim b1 b2)
              rw [hrd] at go
              refine ⟨_, rfl, _, rfl, _, rfl, _, _, _, .int (r : Int), rfl, rfl, sq, atI_nat (j := 0) rfl, cellC d, _, (by rw [cellS_eq]), rfl, ⟨by omega, by omega⟩, _, _, rfl, rfl, ?_, ?_⟩
              · rw [sOf_len, sOf_len, List.length_replicate]
                exact sz (by omega)
              rw [sOf_app, Int.toNat_natCast]
              refine ⟨_, rfl, _, _, _, .int ((a + (runT (tabW d) r).length : Nat) : Int), rfl, rfl, sq, atI_nat (j := 1) rfl, ?_⟩
              refine ⟨_, rfl, rfl, .inr ⟨_, rfl, _, _, _, rfl, rfl, two_len, flip_at d, ?_⟩⟩
              refine ⟨row ++ List.replicate r (cellC d), a + (runT (tabW d) r).length, !d, some (.int (0 + (i : Int))), some (.ref q), ?_, sm2, ?_, ?_, by omega, fun _ => ⟨fun _ => by omega, fun _ => by omega⟩⟩
              · rw [cellS_eq (!d)]
                rfl
              · rw [show m + 1 - (i + 1) = m - i by omega]
                exact go.symm
              · rw [List.length_append, List.length_replicate]
                omega
      · refine iteD0 (by omega) ?_
        refine ⟨row, a, d, some (.int (0 + (i : Int))), y7, rfl, sm, ?_, lr, la, fun y => absurd y z⟩
        rw [rdP_full (by omega)] at hrd ⊢
        exact hrd
    · rintro σ H1 ⟨row, a, d, y6, y7, rfl, sm, hrd, lr, la, ia⟩
      rw [Nat.sub_self] at hrd
      refine ⟨_, rfl, _, rfl, (by show 2 ≤ sizeLine; decide), fun q hq => ?_⟩
      exact qs row a hrd.symm q _ (sm.trans (same_new hq)) upd_same

--SPLIT
def spOnly (D : Addr) : Addr → Value → Option Addr → Sp := fun a cls d vs H Q _ => cls = .ref D ∧ d = none ∧ vs = [.ref a, .int 2] ∧ ∀ H', Same H H' → Q (.bl true) H'
theorem dp_bls {H : Hp} : ∀ bs : List Bool, DpAll K H (bs.map V.bl) (bs.map PyData.bool)
  | [] => .nil
  | b :: r => .cons (.bl b) (dp_bls r)
theorem ok_only {A : Ad} (T : Txt w K mg base A) : FnP P w K mg base 1 A.a_only A.d_only P_only (spOnly A.x_NoTelling) := by
  refine fnP_of T.F_only sc_only (fun a cls d vs H Q E h => ?_) (fun cdv Ar outer s H vs Q p cls d hot hz hr h => ?_)
  · obtain ⟨_, _, rfl, _⟩ := h
    rfl
  · obtain ⟨rfl, rfl, rfl, q⟩ := h
    have hf : ∃ vs, p.2.data = .fields vs := hot.2.elim fun vs e => ⟨vs, e.1⟩
    have hc : HotC (cxH CX0 P w K mg base N_only (Str.ofString "_law_only") (defScope s_only) A.a_only cdv Ar outer s H E0 p) := ⟨p, ⟨hot.1, hot.2⟩, List.mem_singleton.mpr rfl⟩
    refine ⟨_, (pss_cons (ps_set (i := 2) sc_only.nd rfl (Or.inl rfl) (pe_lst (pa_cons (pe_callB (r := rIsE K A.x_NoTelling p.1) (call_isPin (X := cxH CX0 P w K mg base N_only (Str.ofString "_law_only") (defScope s_only) A.a_only cdv Ar outer s H E0 p) T.xe (List.mem_singleton.mpr rfl) hz hf) (by rfl) T.z_isinstance (by decide +kernel) (pa_cons (pv 0) (pa_cons (pe_glob (v := .ref A.x_NoPage) (by rfl) T.xg_NoPage rfl) pa_nil))) (pa_cons (pe_callB (r := rIsE K A.x_NoTelling p.1) (call_isPin (X := cxH CX0 P w K mg base N_only (Str.ofString "_law_only") (defScope s_only) A.a_only cdv Ar outer s H E0 p) T.xe (List.mem_singleton.mpr rfl) hz hf) (by rfl) T.z_isinstance (by decide +kernel) (pa_cons (pv 0) (pa_cons (pe_glob (v := .ref A.x_NoWords) (by rfl) T.xg_NoWords rfl) pa_nil))) (pa_cons (pe_callB (r := rIsE K A.x_NoTelling p.1) (call_isPin (X := cxH CX0 P w K mg base N_only (Str.ofString "_law_only") (defScope s_only) A.a_only cdv Ar outer s H E0 p) T.xe (List.mem_singleton.mpr rfl) hz hf) (by rfl) T.z_isinstance (by decide +kernel) (pa_cons (pv 0) (pa_cons (pe_glob (v := .ref A.x_NoTelling) (by rfl) T.xg_NoTelling rfl) pa_nil))) (pa_cons (pe_callB (r := rIsE K A.x_NoTelling p.1) (call_isPin (X := cxH CX0 P w K mg base N_only (Str.ofString "_law_only") (defScope s_only) A.a_only cdv Ar outer s H E0 p) T.xe (List.mem_singleton.mpr rfl) hz hf) (by rfl) T.z_isinstance (by decide +kernel) (pa_cons (pv 0) (pa_cons (pe_glob (v := .ref A.x_NoFrame) (by rfl) T.xg_NoFrame rfl) pa_nil))) pa_nil))))))
      (pss_cons (ps_set (i := 2) sc_only.nd rfl (Or.inl rfl) (pe_op op_cat (pv 2) (pe_lst (pa_cons (pe_callB (r := rIsE K A.x_NoTelling p.1) (call_isPin (X := cxH CX0 P w K mg base N_only (Str.ofString "_law_only") (defScope s_only) A.a_only cdv Ar outer s H E0 p) T.xe (List.mem_singleton.mpr rfl) hz hf) (by rfl) T.z_isinstance (by decide +kernel) (pa_cons (pv 0) (pa_cons (pe_glob (v := .ref A.x_NoPiece) (by rfl) T.xg_NoPiece rfl) pa_nil))) (pa_cons (pe_callB (r := rIsE K A.x_NoTelling p.1) (call_isPin (X := cxH CX0 P w K mg base N_only (Str.ofString "_law_only") (defScope s_only) A.a_only cdv Ar outer s H E0 p) T.xe (List.mem_singleton.mpr rfl) hz hf) (by rfl) T.z_isinstance (by decide +kernel) (pa_cons (pv 0) (pa_cons (pe_glob (v := .ref A.x_NoName) (by rfl) T.xg_NoName rfl) pa_nil))) (pa_cons (pe_callB (r := rIsE K A.x_NoTelling p.1) (call_isPin (X := cxH CX0 P w K mg base N_only (Str.ofString "_law_only") (defScope s_only) A.a_only cdv Ar outer s H E0 p) T.xe (List.mem_singleton.mpr rfl) hz hf) (by rfl) T.z_isinstance (by decide +kernel) (pa_cons (pv 0) (pa_cons (pe_glob (v := .ref A.x_NoEnds) (by rfl) T.xg_NoEnds rfl) pa_nil))) (pa_cons (pe_callB (r := rIsE K A.x_NoTelling p.1) (call_isPin (X := cxH CX0 P w K mg base N_only (Str.ofString "_law_only") (defScope s_only) A.a_only cdv Ar outer s H E0 p) T.xe (List.mem_singleton.mpr rfl) hz hf) (by rfl) T.z_isinstance (by decide +kernel) (pa_cons (pv 0) (pa_cons (pe_glob (v := .ref A.x_NoCall) (by rfl) T.xg_NoCall rfl) pa_nil))) pa_nil)))))))
      (pss_cons (ps_set (i := 2) sc_only.nd rfl (Or.inl rfl) (pe_op op_cat (pv 2) (pe_lst (pa_cons (pe_callB (r := rIsE K A.x_NoTelling p.1) (call_isPin (X := cxH CX0 P w K mg base N_only (Str.ofString "_law_only") (defScope s_only) A.a_only cdv Ar outer s H E0 p) T.xe (List.mem_singleton.mpr rfl) hz hf) (by rfl) T.z_isinstance (by decide +kernel) (pa_cons (pv 0) (pa_cons (pe_glob (v := .ref A.x_NoSaying) (by rfl) T.xg_NoSaying rfl) pa_nil))) pa_nil))))
      (pss_one (ps_ret (pe_and (pe_callB (r := rIsE K A.x_NoTelling p.1) (call_isPin (X := cxH CX0 P w K mg base N_only (Str.ofString "_law_only") (defScope s_only) A.a_only cdv Ar outer s H E0 p) T.xe (List.mem_singleton.mpr rfl) hz hf) (by rfl) T.z_isinstance (by decide +kernel) (pa_cons (pv 0) (pa_cons (pe_glob (v := .ref A.x_FarError) (by rfl) T.xg_FarError rfl) pa_nil))) (pe_and (pe_callB (r := rIsE K A.x_NoTelling p.1) (call_isPin (X := cxH CX0 P w K mg base N_only (Str.ofString "_law_only") (defScope s_only) A.a_only cdv Ar outer s H E0 p) T.xe (List.mem_singleton.mpr rfl) hz hf) (by rfl) T.z_isinstance (by decide +kernel) (pa_cons (pv 0) (pa_cons (pe_bltn (v := .ty "ValueError") (by rfl) T.z_ValueError (by decide +kernel) rfl) pa_nil))) (pe_one (pe_cmpR (op_eqD hr.units) (pv 2) (pe_lcHot (own := [("_law_k", 3)]) (g := gName 3) hc sc_only.nd (pi_range1H (by rfl) T.z_range (pa_cons pe_int pa_nil)) (blkOk_by (own := [("_law_k", 3)]) (N := N_only) (sc := defScope s_only) (by decide +kernel)) (fun _ _ _ _ _ => pg_name (i := 3) sc_only.nd rfl (Or.inl rfl)) (fun _ _ _ _ _ => (pe_cmpR op_eq (pv 1) (pv 3) (nomark _)))) (nomark _)))))))))), ?_⟩
    refine ⟨_, rfl, _, .ref _, false, rfl, (fun u h => h), T.ki_NoPage, _, rfl, _, .ref _, false, rfl, (fun u h => h), T.ki_NoWords, _, rfl, _, .ref _, true, rfl, (fun u h => h), T.ki_NoTelling, _, rfl, _, .ref _, false, rfl, (fun u h => h), T.ki_NoFrame, (by show 4 ≤ sizeLine; decide), fun p1 hp1 => ?_⟩
    refine ⟨_, rfl, _, rfl, _, .ref _, false, rfl, (fun u h => h), T.ki_NoPiece, _, rfl, _, .ref _, false, rfl, (fun u h => h), T.ki_NoName, _, rfl, _, .ref _, false, rfl, (fun u h => h), T.ki_NoEnds, _, rfl, _, .ref _, false, rfl, (fun u h => h), T.ki_NoCall, (by show 4 ≤ sizeLine; decide), fun p2 hp2 => ?_⟩
    refine ⟨_, _, _, _, rfl, rfl, (by rw [upd_ne (ne_of_none upd_same hp2)]; exact upd_same), upd_same, (by show 8 ≤ sizeLine; decide), fun p3 hp3 => ?_⟩
    refine ⟨_, rfl, _, rfl, _, .ref _, false, rfl, (fun u h => h), T.ki_NoSaying, (by show 1 ≤ sizeLine; decide), fun p4 hp4 => ?_⟩
    refine ⟨_, _, _, _, rfl, rfl, (by rw [upd_ne (ne_of_none upd_same hp4)]; exact upd_same), upd_same, (by show 9 ≤ sizeLine; decide), fun p5 hp5 => ?_⟩
    refine ⟨_, rfl, _, .ref _, true, rfl, (fun u h => h), T.ki_FarError, _, rfl, ?_⟩
    refine ⟨_, rfl, _, .type "ValueError", true, rfl, (fun u h => h), T.kv, _, rfl, ?_⟩
    have sA : Same H _ := ((((same_new (o := .lst [.bl false, .bl false, .bl true, .bl false]) hp1).trans (same_new (o := .lst [.bl false, .bl false, .bl false, .bl false]) hp2)).trans (same_new (o := .lst [.bl false, .bl false, .bl true, .bl false, .bl false, .bl false, .bl false, .bl false]) hp3)).trans (same_new (o := .lst [.bl false]) hp4)).trans (same_new (o := .lst [.bl false, .bl false, .bl true, .bl false, .bl false, .bl false, .bl false, .bl false, .bl false]) hp5)
    refine ⟨_, rfl, _, rfl, by decide, by decide, fun D hD => lc_range (lo := 0) (n := 9) (fun i H' => Same (upd _ p5 _) H' ∧ H' D = some (.lst ((List.range i).map fun (k : Nat) => V.bl (decide (k = 2))))) ⟨same_new hD, upd_same⟩ ?_ ?_⟩
    · rintro i H1 hi ⟨sm, hD1⟩
      refine ⟨rfl, _, rfl, _, rfl, rfl, _, hD1, ?_, Same.mut sm hD, ?_⟩
      · rw [List.length_map, List.length_range]
        exact szl (by omega)
      · rw [upd_same, range_more]
        have e : decide (V.int 2 = V.int (0 + (i : Int))) = decide (i = 2) := decide_eq_decide.mpr ⟨fun h => by have := V.int.inj h; omega, fun h => by rw [h]; rfl⟩
        rw [e]
    · rintro H1 ⟨sm, hD1⟩
      refine ⟨_, _, .lst (SqL.of (sm _ _ upd_same)) (dp_bls [false, false, true, false, false, false, false, false, false]), .lst (SqL.of hD1) (dp_bls [false, false, true, false, false, false, false, false, false]), (by decide +kernel), (by decide +kernel), ?_⟩
      rw [show PyData.eqv (.list ([false, false, true, false, false, false, false, false, false].map PyData.bool)) (.list ([false, false, true, false, false, false, false, false, false].map PyData.bool)) = true by decide +kernel]
      exact q H1 (sA.trans sm)

theorem int_yes : PySem.W.kitOne K (.type "int") (.type "int") = some true := kit_ty (by decide +kernel)
theorem int_nob : PySem.W.kitOne K (.type "int") (.type "bool") = some false := kit_ty (by decide +kernel)
theorem list_yes : PySem.W.kitOne K (.type "list") (.type "list") = some true := kit_ty (by decide +kernel)
def spWhole : Sp := fun vs H Q _ => ∃ i : Int, vs = [.int i] ∧ Q (.bl true) H
theorem ok_whole {A : Ad} (T : Txt w K mg base A) : FnOk P w K mg base CX0 1 A.a_whole A.d_whole P_whole spWhole := by
  refine T.F_whole.ok sc_whole (fun vs H Q E h => ?_) (fun cdv Ar outer s H vs Q E hr h => ?_)
  · obtain ⟨i, rfl, _⟩ := h
    rfl
  · obtain ⟨i, rfl, q⟩ := h
    refine ⟨_, (pss_one (ps_ret (pe_and (pe_callB (r := rIsi K) call_isi (by rfl) T.z_isinstance (by decide +kernel) (pa_cons (pv 0) (pa_cons (pe_bltn (v := .ty "int") (by rfl) T.z_int (by decide +kernel) rfl) pa_nil))) (pe_one (pe_not (pe_callB (r := rIsi K) call_isi (by rfl) T.z_isinstance (by decide +kernel) (pa_cons (pv 0) (pa_cons (pe_bltn (v := .ty "bool") (by rfl) T.z_bool (by decide +kernel) rfl) pa_nil)))))))), ?_⟩
    refine ⟨_, rfl, _, _, _, _, true, rfl, ClsV.ty _, TyX.base (.int _), int_yes, _, rfl, ?_⟩
    refine ⟨_, rfl, _, _, _, _, false, rfl, ClsV.ty _, TyX.base (.int _), int_nob, _, rfl, ?_⟩
    exact q
theorem rep_more (i : Nat) : (List.replicate i true).map V.bl ++ [V.bl true] = (List.replicate (i + 1) true).map V.bl := by
  rw [List.replicate_succ', List.map_append]
  rfl
theorem rep_all (n : Nat) : (List.replicate n true).all id = true := by
  rw [List.all_eq_true]
  intro x hx
  exact (List.mem_replicate.mp hx).2
def iD (ns : List Nat) : List PyData := ns.map fun (n : Nat) => PyData.int (n : Int)
theorem dp_ints {H : Hp} : ∀ ns : List Nat, DpAll K H (ns.map iV) (iD ns)
  | [] => .nil
  | n :: r => .cons (.int _) (dp_ints r)
theorem lay_ints : ∀ ns : List Nat, PyData.canLayAll0 (iD ns) = true
  | [] => by simp [iD, PyData.canLayAll0]
  | n :: r => by
    have h := lay_ints r
    unfold iD at h ⊢
    simp only [List.map_cons, PyData.canLayAll0, PyData.canLay0, h, Bool.and_true]
theorem depth_ints : ∀ ns : List Nat, PyData.depthAll (iD ns) = 0
  | [] => by simp [iD, PyData.depthAll]
  | n :: r => by
    have h := depth_ints r
    unfold iD at h ⊢
    simp only [List.map_cons, PyData.depthAll, h, PyData.depth]
    rfl
theorem shaped_ints (ns : List Nat) : SeqAt.shaped (.list (iD ns)) = true := by
  show (PyData.canLay0 (.list (iD ns)) && decide (PyData.depth (.list (iD ns)) ≤ 64)) = true
  rw [Bool.and_eq_true]
  refine ⟨by simp only [PyData.canLay0]; exact lay_ints ns, decide_eq_true ?_⟩
  simp only [PyData.depth, depth_ints]
  omega
theorem eqv_ints (ns : List Nat) : PyData.eqv (.list (iD ns)) (.list (iD ns)) = true := SeqAt.eqv_refl _ (by simp only [PyData.canLay0]; exact lay_ints ns)

/-! ### tuples of a text and a number -/
def tdD (row : List Nat) (a : Nat) : List PyData := [.str (sOf row), .int (a : Int)]
theorem dp_td {H : Hp} (row : List Nat) (a : Nat) : DpAll K H [.str (sOf row), .int (a : Int)] (tdD row a) := .cons (.str _) (.cons (.int _) .nil)
theorem lay_td {row : List Nat} (h : Codes row) (a : Nat) : PyData.canLay0 (.tuple (tdD row a)) = true := by
  unfold tdD
  simp only [PyData.canLay0, PyData.canLayAll0, strOk_of h, Bool.and_true]
theorem shaped_td {row : List Nat} (h : Codes row) (a : Nat) : SeqAt.shaped (.tuple (tdD row a)) = true := by
  show (PyData.canLay0 (.tuple (tdD row a)) && decide (PyData.depth (.tuple (tdD row a)) ≤ 64)) = true
  rw [Bool.and_eq_true]
  refine ⟨lay_td h a, decide_eq_true ?_⟩
  unfold tdD
  simp only [PyData.depth, PyData.depthAll]
  decide
theorem eqv_td {row : List Nat} (h : Codes row) (a : Nat) : PyData.eqv (.tuple (tdD row a)) (.tuple (tdD row a)) = true := SeqAt.eqv_refl _ (lay_td h a)

/-! ### what is due of a thing -/
def rdX (m : Nat) (l : List Nat) : Option (List Nat × Nat) := if isB l = true then rdL m l else none
def spDue (K : PySem.W.Frag) : Sp := fun vs H Q _ => ∃ (tp : Addr) (m : Nat) (v : V) (x : Int), vs = [.ref tp, .int x, v] ∧ x = m ∧ m ≤ 64 ∧ TabsAt H tp ∧
  ((NoTxt K H v ∧ ∀ H', Same H H' → Q .non H') ∨ ∃ l : List Nat, v = .str (sOf l) ∧ l.length ≤ 50000 ∧ (rdX m l = none → ∀ H', Same H H' → Q .non H') ∧
    (∀ row a, rdX m l = some (row, a) → ∀ q H', Same H H' → H' q = some (.tup [.str (sOf row), .int (a : Int)]) → Q (.ref q) H'))
theorem sign_or (c : Nat) : (if decide (V.str ⟨#[c]⟩ = V.str (Str.ofString "0")) = true then V.bl (decide (V.str ⟨#[c]⟩ = V.str (Str.ofString "0"))) else V.bl (decide (V.str ⟨#[c]⟩ = V.str (Str.ofString "1")))) = V.bl (c == 48 || c == 49) := by
  have e0 : decide (V.str ⟨#[c]⟩ = V.str (Str.ofString "0")) = decide (c = 48) := decide_eq_decide.mpr (vstr1 (c := c) (d := 48))
  have e1 : decide (V.str ⟨#[c]⟩ = V.str (Str.ofString "1")) = decide (c = 49) := decide_eq_decide.mpr (vstr1 (c := c) (d := 49))
  rw [e0, e1]
  by_cases h : c = 48
  · subst h
    rfl
  · rw [decide_eq_false h, if_neg (by decide), show (c == 48) = false from by simpa using h, Bool.false_or]
    by_cases h2 : c = 49
    · subst h2
      rfl
    · rw [decide_eq_false h2, show (c == 49) = false from by simpa using h2]
theorem ok_due {A : Ad} (T : Txt w K mg base A) : FnOk P w K mg base CX0 3 A.a_due A.d_due P_due (spDue K) := by
  have G_read_plain_l := ok_read_plain_l (P := P) (w := w) (base := base) T
  refine T.F_due.ok sc_due (fun vs H Q E h => ?_) (fun cdv Ar outer s H vs Q E hr h => ?_)
  · obtain ⟨tp, m, v, x, rfl, _⟩ := h
    rfl
  · obtain ⟨tp, m, v, _, rfl, rfl, m1, hTA, h⟩ := h
    refine ⟨_, (pss_cons (ps_if (PW.pt (pw_or (pt_not (pt_val (pe_callB (r := rIsi K) call_isi (by rfl) T.z_isinstance (by decide +kernel) (pa_cons (pv 2) (pa_cons (pe_bltn (v := .ty "str") (by rfl) T.z_str (by decide +kernel) rfl) pa_nil))))) (pw_or1 (pt_not (pt_val (pe_callB (cr_all rfl) (by rfl) T.z_all (by decide +kernel) (pa_cons (pe_lc (own := [("_law_sign", 3)]) (g := gName 3) (tt := tYes) (by rfl) sc_due.nd (pi_str (pv 2)) (blkOk_by (own := [("_law_sign", 3)]) (N := N_due) (sc := defScope s_due) (by decide +kernel)) (fun _ _ _ _ _ => pg_name (i := 3) sc_due.nd rfl (Or.inl rfl)) (fun _ _ _ _ _ => pts_nil) (fun s5 H5 C5 cl5 fp5 => (pe_or (pe_cmpR op_eq (pv 3) pe_str (nomark _)) (pe_one (pe_cmpR op_eq (pv 3) pe_str (nomark _)))))) pa_nil)))))))
      (pss_one (ps_ret pe_non)) pss_nil)
      (pss_one (ps_ret (pe_call G_read_plain_l (hr.mono (by decide)) (by rfl) T.g_read_plain_l T.F_read_plain_l.kp T.b_read_plain_l .nil pass0 (pa_cons (pv 0) (pa_cons (pv 1) (pa_cons (pv 2) pa_nil))))))), ?_⟩
    rcases h with ⟨⟨t, ht, mt⟩, q⟩ | ⟨l, rfl, ll, qn, qs⟩
    · refine ⟨_, rfl, _, _, _, _, false, rfl, ClsV.ty _, TyX.base ht, isS_no mt, _, rfl, ?_⟩
      exact q H (Same.refl H)
    · refine ⟨_, rfl, _, _, _, _, true, rfl, ClsV.ty _, TyX.base (.str _), isS_yes, _, rfl, ?_⟩
      have sz1 : (sOf l).cps.size = l.length := by simp [sOf]
      refine ⟨_, rfl, _, rfl, fun D hD => lc_it (walk_str (z := sOf l)) (fun i H' => Same H H' ∧ H' D = some (.lst ((l.take i).map fun c => V.bl (c == 48 || c == 49)))) ⟨same_new hD, upd_same⟩ (fun _ _ _ _ => trivial) ?_ ?_⟩
      · rintro i x H1 H2 hi ⟨sm, hD1⟩ ⟨rfl, c, hc, rfl⟩
        have hc' : l[i]? = some c := by simpa [sOf] using hc
        have hi' : i < l.length := by omega
        have lz : ((l.take i).map fun c => V.bl (c == 48 || c == 49)).length < sizeLine := by
          rw [List.length_map, List.length_take]
          exact szl (by omega)
        have done : ∀ y : V, y = V.bl (c == 48 || c == 49) → ∃ acc, H2 D = some (.lst acc) ∧ acc.length < sizeLine ∧ Same H (upd H2 D (.lst (acc ++ [y]))) ∧ upd H2 D (.lst (acc ++ [y])) D = some (.lst ((l.take (i + 1)).map fun c => V.bl (c == 48 || c == 49))) := fun y hy => by
          refine ⟨_, hD1, lz, Same.mut sm hD, ?_⟩
          rw [upd_same, take_more l i c hc', List.map_append, hy]
          rfl
        have so := sign_or c
        refine ⟨rfl, _, rfl, rfl, _, rfl, ?_⟩
        by_cases h : V.str ⟨#[c]⟩ = V.str (Str.ofString "0")
        · refine iteD1 h ?_
          rw [decide_eq_true h, if_pos rfl] at so
          exact done _ so
        · refine iteD0 h ?_
          rw [decide_eq_false h, if_neg (by decide)] at so
          exact ⟨_, rfl, rfl, done _ so⟩
      · rintro H1 ⟨sm, hD1⟩
        rw [sz1, List.take_length] at hD1
        refine ⟨_, l.map fun c => (c == 48 || c == 49), rfl, SqL.of (by rw [List.map_map]; exact hD1), _, rfl, ?_⟩
        have ea : ((l.map fun c => (c == 48 || c == 49)).all id) = isB l := by
          rw [List.all_map]
          rfl
        rw [ea]
        cases bl : isB l with
        | false => exact qn (by unfold rdX; rw [bl]; rfl) H1 sm
        | true =>
          have ex : rdX m l = rdL m l := by unfold rdX; rw [bl]; rfl
          refine ⟨_, rfl, _, rfl, _, rfl, tp, m, l, _, rfl, rfl, m1, tabs_s hTA sm, ll, (fun e H2 s2 => qn (by rw [ex]; exact e) H2 (sm.trans s2)), fun row a e q2 H2 s2 h2 => qs row a (by rw [ex]; exact e) q2 H2 (sm.trans s2) h2⟩

/-! ### read and refused alike, of any thing -/
theorem isT_yes : PySem.W.kitOne K (.type "tuple") (.type "tuple") = some true := kit_ty (by decide +kernel)
/-- no text: it stays none while lists and tuples stand -/
def NT (H : Hp) (v : V) : Prop := v = .non ∨ (∃ x, v = .bl x) ∨ (∃ i, v = .int i) ∨ (∃ a xs, v = .ref a ∧ H a = some (.lst xs)) ∨ ∃ a xs, v = .ref a ∧ H a = some (.tup xs)
theorem NT.ext {H H' : Hp} {v : V} (h : NT H v) (e : LamX.ExtN H H') : NT H' v := by
  rcases h with h | h | h | ⟨a, xs, h, h2⟩ | ⟨a, xs, h, h2⟩
  · exact .inl h
  · exact .inr (.inl h)
  · exact .inr (.inr (.inl h))
  · exact .inr (.inr (.inr (.inl ⟨a, xs, h, e _ _ h2 (fun ps z => by cases z)⟩)))
  · exact .inr (.inr (.inr (.inr ⟨a, xs, h, e _ _ h2 (fun ps z => by cases z)⟩)))
theorem NT.no {H : Hp} {v : V} (h : NT H v) : NoTxt K H v := by
  rcases h with rfl | ⟨x, rfl⟩ | ⟨i, rfl⟩ | ⟨a, xs, rfl, h2⟩ | ⟨a, xs, rfl, h2⟩
  · exact ⟨"NoneType", .non, by decide⟩
  · exact ⟨"bool", .bl x, by decide⟩
  · exact ⟨"int", .int i, by decide⟩
  · exact ⟨"list", .lst h2, by decide⟩
  · exact ⟨"tuple", .tup h2, by decide⟩
def Thg (H : Hp) (v : V) : Prop := NT H v ∨ ∃ l : List Nat, v = .str (sOf l) ∧ l.length ≤ 50000
theorem Thg.ext {H H' : Hp} {v : V} (h : Thg H v) (e : LamX.ExtN H H') : Thg H' v := by
  rcases h with h | h
  · exact .inl (h.ext e)
  · exact .inr h
def spGood (p : Addr) : Sp := fun vs H Q _ => ∃ (tp : Addr) (m : Nat) (v : V) (x : Int), vs = [.ref tp, .int x, v] ∧ x = m ∧ m ≤ 64 ∧ TabsAt H tp ∧ Thg H v ∧ LamX.Tabs (TT p) H ∧ ∀ H', LamX.ExtN H H' → LamX.Tabs (TT p) H' → Q (.bl true) H'
theorem ok_good {A : Ad} (T : Txt w K mg base A) : FnOk P w K mg base CX0 7 A.a_good A.d_good P_good (spGood A.p_making_order) := by
  have G_due := ok_due (P := P) (w := w) (base := base) T
  have G_read_plain := ok_read_plain (P := P) (w := w) (base := base) T
  have G_whole := ok_whole (P := P) (w := w) (base := base) T
  have G_only := ok_only (P := P) (w := w) (base := base) T
  refine T.F_good.ok sc_good (fun vs H Q E h => ?_) (fun cdv Ar outer s H vs Q E hr h => ?_)
  · obtain ⟨tp, m, v, x, rfl, _⟩ := h
    rfl
  · obtain ⟨tp, m, v, _, rfl, rfl, m1, hTA, hv, hT, q⟩ := h
    refine ⟨_, (pss_cons (ps_set (i := 3) sc_good.nd rfl (Or.inl rfl) (pe_call G_due (hr.mono (by decide)) (by rfl) T.g_due T.F_due.kp T.b_due .nil pass0 (pa_cons (pv 0) (pa_cons (pv 1) (pa_cons (pv 2) pa_nil)))))
      (pss_cons (L2N.ps_try_as (i := 5) (Wout := fun _ _ _ _ => False) rfl rfl sc_good.nd rfl rfl ⟨rfl, by decide, Or.inl T.xg_FarError⟩ Fp.takes0N (fun W pn xe tk _ => (pss_one (ps_set (i := 4) sc_good.nd rfl (Or.inl rfl) (pe_callS G_read_plain (hr.mono (by decide)) (by rfl) T.g_read_plain T.F_read_plain.kp T.b_read_plain (fun σ => L2N.passAt tk σ) (pa_cons (pv 1) (pa_cons (pv 2) pa_nil)))))) (fun a oe cls d pn hz hf => (pss_one (ps_ret (pe_and (pe_cmpR op_isN (pv 3) pe_non (nomark _)) (pe_one (pe_callE (a := a) (oe := oe) G_only (roomH_mark (j := 1) hr (by decide)) (List.mem_cons_self ..) ⟨rfl, hf.elim fun vs e => ⟨vs, e, hz.2.2 vs e⟩⟩ hz.zc (by rfl) T.g_only T.F_only.kp T.b_only (pa_cons (pv 5) (pa_cons pe_int pa_nil)))))))))
      (pss_one (ps_ret (pe_and (pe_cmpR op_notN (pv 3) pe_non (nomark _)) (pe_and (pe_callB (r := rIsi K) call_isi (by rfl) T.z_isinstance (by decide +kernel) (pa_cons (pv 4) (pa_cons (pe_bltn (v := .ty "tuple") (by rfl) T.z_tuple (by decide +kernel) rfl) pa_nil))) (pe_and (pe_cmpR (op_eqD hr.units) (pv 4) (pv 3) (nomark _)) (pe_one (pe_call G_whole (hr.mono (by decide)) (by rfl) T.g_whole T.F_whole.kp T.b_whole .nil pass0 (pa_cons (pe_ix (r := rIxT K) ix_tup (pv 4) pe_int (fun _ _ => rfl)) pa_nil)))))))))), ?_⟩
    rcases hv with no | ⟨l, rfl, ll⟩
    · refine ⟨_, rfl, _, rfl, _, rfl, tp, m, v, _, rfl, rfl, m1, hTA, .inl ⟨no.no, fun H1 s1 => ?_⟩⟩
      refine ⟨_, rfl, _, rfl, v, m, _, rfl, rfl, m1, tabs_same hT s1, .inl ⟨(no.ext (extN_of s1)).no, ?_⟩⟩
      refine ⟨true, T.xm_FarError, fun _ e0 he0 => ?_, fun z => nomatch z⟩
      refine ⟨_, rfl, rfl, _, rfl, ?_⟩
      rw [decide_eq_true rfl]
      exact ⟨_, rfl, rfl, rfl, rfl, fun H3 s3 => q H3 ((extN_of s1).trans (extN_of s3)) (tabs_same (tabs_same hT s1) s3)⟩
    · have refuse : ∀ H1 H2 : Hp, Same H H1 → LamX.ExtN H1 H2 → LamX.Tabs (TT A.p_making_order) H2 → ∀ H3, Same H2 H3 → Q (.bl true) H3 := fun H1 H2 s1 e2 T2 H3 s3 => q H3 (((extN_of s1).trans e2).trans (extN_of s3)) (tabs_same T2 s3)
      refine ⟨_, rfl, _, rfl, _, rfl, tp, m, _, _, rfl, rfl, m1, hTA, .inr ⟨l, rfl, ll, (fun e H1 s1 => ?_), fun row a e q1 H1 s1 hq1 => ?_⟩⟩
      · have T1 := tabs_same hT s1
        refine ⟨_, rfl, _, rfl, _, m, _, rfl, rfl, m1, T1, .inr ⟨l, rfl, ll, (fun z => ?_), (fun z z2 H2 e2 T2 => ?_), (fun z row a e2 => ?_)⟩⟩
        · refine ⟨true, T.xm_FarError, fun _ e0 he0 => ?_, fun z => nomatch z⟩
          refine ⟨_, rfl, rfl, _, rfl, ?_⟩
          rw [decide_eq_true rfl]
          exact ⟨_, rfl, rfl, rfl, rfl, refuse H1 H1 s1 (LamX.ExtN.refl _) T1⟩
        · refine ⟨true, T.xm_FarError, fun _ e0 he0 => ?_, fun z => nomatch z⟩
          refine ⟨_, rfl, rfl, _, rfl, ?_⟩
          rw [decide_eq_true rfl]
          exact ⟨_, rfl, rfl, rfl, rfl, refuse H1 H2 s1 e2 T2⟩
        · unfold rdX at e
          rw [if_pos z, e2] at e
          cases e
      · have bt : isB l = true := by
          unfold rdX at e
          by_cases z : isB l = true
          · exact z
          · rw [if_neg z] at e
            cases e
        unfold rdX at e
        rw [if_pos bt] at e
        refine ⟨_, rfl, _, rfl, _, m, _, rfl, rfl, m1, tabs_same hT s1, .inr ⟨l, rfl, ll, (fun z => by rw [bt] at z; cases z), (fun _ z => by rw [e] at z; cases z), (fun _ row2 a2 e2 q2 H2 eN T2 hq2 => ?_)⟩⟩
        rw [e] at e2
        cases e2
        have C : Codes row := (rdP_row (m + 1) [] 0 false row a (fun _ h => nomatch h) e).codes
        have hq12 : H2 q1 = some (.tup [.str (sOf row), .int (a : Int)]) := eN _ _ hq1 (fun ps z => by cases z)
        refine ⟨_, rfl, rfl, _, rfl, ?_⟩
        rw [show (!decide (V.ref q1 = V.non)) = true by rw [decide_eq_false (fun z => by cases z)]; rfl]
        refine ⟨_, rfl, _, _, _, _, true, rfl, ClsV.ty _, TyX.base (.tup hq2), isT_yes, _, rfl, ?_⟩
        refine ⟨_, rfl, _, rfl, _, _, .tup (.inl (.inl hq2)) (dp_td row a), .tup (.inl (.inl hq12)) (dp_td row a), shaped_td C a, shaped_td C a, _, rfl, ?_⟩
        rw [eqv_td C a]
        refine ⟨_, rfl, _, _, _, .int (a : Int), rfl, rfl, .inl (.inl hq2), atI_nat (j := 1) rfl, _, rfl, ?_⟩
        exact q H2 ((extN_of s1).trans eN) T2

--SPLIT
/-! ### spoils in the heap -/
def spV : Spl → List V
  | .turn n => [.str (Str.ofString "turn"), .int (n : Int)]
  | .lose n => [.str (Str.ofString "lose"), .int (n : Int)]
  | .put n b => [.str (Str.ofString "put"), .int (n : Int), .str (sOf [b])]
def SpsAt (H : Hp) : List V → List Spl → Prop
  | [], [] => True
  | v :: vs, sp :: sps => (∃ a, v = .ref a ∧ H a = some (.tup (spV sp))) ∧ SpsAt H vs sps
  | _, _ => False
theorem SpsAt.len {H : Hp} : ∀ {vs : List V} {sps : List Spl}, SpsAt H vs sps → vs.length = sps.length
  | [], [], _ => rfl
  | _ :: vs, _ :: sps, h => by rw [List.length_cons, List.length_cons, SpsAt.len h.2]
  | [], _ :: _, h => h.elim
  | _ :: _, [], h => h.elim
theorem SpsAt.get {H : Hp} : ∀ {vs : List V} {sps : List Spl} {i : Nat} {v : V}, SpsAt H vs sps → vs[i]? = some v → ∃ sp a, sps[i]? = some sp ∧ v = .ref a ∧ H a = some (.tup (spV sp))
  | [], [], _, _, _, e => by cases e
  | x :: vs, sp :: sps, 0, v, h, e => by
    obtain ⟨⟨a, h1, h2⟩, _⟩ := h
    have : x = v := Option.some.inj e
    exact ⟨sp, a, rfl, by rw [← this, h1], h2⟩
  | x :: vs, sp :: sps, i + 1, v, h, e => SpsAt.get (i := i) h.2 e
  | [], _ :: _, _, _, h, _ => h.elim
  | _ :: _, [], _, _, h, _ => h.elim
theorem SpsAt.mono {H H' : Hp} : ∀ {vs : List V} {sps : List Spl}, SpsAt H vs sps → (∀ a xs, H a = some (.tup xs) → H' a = some (.tup xs)) → SpsAt H' vs sps
  | [], [], _, _ => trivial
  | x :: vs, sp :: sps, h, m => by
    obtain ⟨⟨a, h1, h2⟩, h3⟩ := h
    exact ⟨⟨a, h1, m _ _ h2⟩, SpsAt.mono h3 m⟩
  | [], _ :: _, h, _ => h.elim
  | _ :: _, [], h, _ => h.elim
theorem SpsAt.app {H : Hp} {ws : List V} {tps : List Spl} (k : SpsAt H ws tps) : ∀ {vs : List V} {sps : List Spl}, SpsAt H vs sps → SpsAt H (vs ++ ws) (sps ++ tps)
  | [], [], _ => k
  | x :: vs, sp :: sps, h => ⟨h.1, SpsAt.app k h.2⟩
  | [], _ :: _, h => h.elim
  | _ :: _, [], h => h.elim
theorem SpsAt.take {H : Hp} : ∀ {vs : List V} {sps : List Spl} (n : Nat), SpsAt H vs sps → SpsAt H (vs.take n) (sps.take n)
  | [], [], n, _ => by rw [List.take_nil, List.take_nil]; trivial
  | x :: vs, sp :: sps, 0, h => trivial
  | x :: vs, sp :: sps, n + 1, h => ⟨h.1, SpsAt.take n h.2⟩
  | [], _ :: _, _, h => h.elim
  | _ :: _, [], _, h => h.elim
theorem ne_word {a b : Str} (h : a ≠ b) : ¬ (V.str a = V.str b) := fun e => h (V.str.inj e)
theorem spoil_len : ∀ (sps : List Spl) (l : List Nat), (spoilL l sps).length ≤ l.length + sps.length
  | [], l => Nat.le_refl _
  | sp :: r, l => by
    have h1 := spoil_len r (once l sp)
    have h2 := once_len l sp
    show (spoilL (once l sp) r).length ≤ _
    rw [List.length_cons]
    omega
theorem spoil_more {sps : List Spl} {i : Nat} {sp : Spl} (l : List Nat) (h : sps[i]? = some sp) : spoilL l (sps.take (i + 1)) = once (spoilL l (sps.take i)) sp := by
  rw [take_more sps i sp h]
  unfold spoilL
  rw [List.foldl_append]
  rfl

/-! ### spoils are drawn -/
def GoodS (mo : Int) (sp : Spl) : Prop := (plc sp : Int) < mo + 2 ∧ BitS sp
def spSpoils : Sp := fun vs H Q _ => ∃ (b : Addr) (m mo : Int), vs = [.ref b, .int m, .int mo] ∧ BagAt H b ∧ 0 ≤ m ∧ m ≤ 100 ∧ 0 ≤ mo ∧ mo ≤ 100000 ∧
  ∀ p ws sps H', H p = none → Bx b H H' → H' p = some (.lst ws) → SpsAt H' ws sps → (sps.length : Int) = m → (∀ sp ∈ sps, GoodS mo sp) → Q (.ref p) H'
theorem ok_spoils {A : Ad} (T : Txt w K mg base A) : FnOk P w K mg base CX0 2 A.a_spoils A.d_spoils P_spoils spSpoils := by
  have G_draw := ok_draw (P := P) (w := w) (base := base) T
  refine T.F_spoils.ok sc_spoils (fun vs H Q E h => ?_) (fun cdv Ar outer s H vs Q E hr h => ?_)
  · obtain ⟨b, m, mo, rfl, _⟩ := h
    rfl
  · obtain ⟨b, m, mo, rfl, hb, m0, m1, o0, o1, q⟩ := h
    obtain ⟨m, rfl⟩ := Int.eq_ofNat_of_zero_le m0
    refine ⟨_, (pss_cons (ps_set (i := 3) sc_spoils.nd rfl (Or.inl rfl) (pe_lst pa_nil))
      (pss_cons (ps_for PassesOwn.never rfl (pi_range1 (by rfl) T.z_range (pa_cons (pv 1) pa_nil)) (pg_name (i := 4) sc_spoils.nd rfl (Or.inl rfl))
      (pss_cons (ps_set (i := 5) sc_spoils.nd rfl (Or.inl rfl) (pe_ix (r := rIxL K) ix_list (pe_lst (pa_cons pe_str (pa_cons pe_str (pa_cons pe_str pa_nil)))) (pe_call G_draw (hr.mono (by decide)) (by rfl) T.g_draw T.F_draw.kp T.b_draw .nil pass0 (pa_cons (pv 0) (pa_cons pe_int pa_nil))) (fun _ _ => rfl)))
      (pss_cons (ps_set (i := 6) sc_spoils.nd rfl (Or.inl rfl) (pe_call G_draw (hr.mono (by decide)) (by rfl) T.g_draw T.F_draw.kp T.b_draw .nil pass0 (pa_cons (pv 0) (pa_cons (pe_op op_add (pv 2) pe_int) pa_nil))))
      (pss_one (ps_if (pt_cmpR op_eq (pv 5) pe_str (nomark _))
      (pss_one (ps_expr (pe_bm PySem.F.plainAttrs_list PySem.F.slot_list_append PySem.F.type_list_append mt_append (pv 3) (pa_cons (pe_tup (pa_cons (pv 5) (pa_cons (pv 6) (pa_cons (pe_ix ix_str pe_str (pe_call G_draw (hr.mono (by decide)) (by rfl) T.g_draw T.F_draw.kp T.b_draw .nil pass0 (pa_cons (pv 0) (pa_cons pe_int pa_nil))) (fun _ _ => rfl)) pa_nil)))) pa_nil)))) (pss_one (ps_expr (pe_bm PySem.F.plainAttrs_list PySem.F.slot_list_append PySem.F.type_list_append mt_append (pv 3) (pa_cons (pe_tup (pa_cons (pv 5) (pa_cons (pv 6) pa_nil))) pa_nil)))))))))
      (pss_one (ps_ret (pv 3))))), ?_⟩
    refine ⟨(by show 0 ≤ sizeLine; decide), fun p hp => ?_⟩
    have np : p ≠ b := BagAt.ne hb hp
    refine ⟨_, rfl, _, rfl, by omega, by omega, for_range (lo := 0) (n := m) (fun i σ H' => ∃ (ws : List V) (sps : List Spl) (y4 y5 y6 : Option V), σ = [some (.ref b), some (.int (m : Int)), some (.int mo), some (.ref p), y4, y5, y6] ∧ Bx b H H' ∧ H' p = some (.lst ws) ∧ SpsAt H' ws sps ∧ sps.length = i ∧ ∀ sp ∈ sps, GoodS mo sp)
      ⟨[], [], none, none, none, rfl, (Bx.refl hb).same (same_new hp), upd_same, trivial, rfl, fun _ h => nomatch h⟩ ?_ ?_⟩
    · rintro i σ H1 hi ⟨ws, sps, y4, y5, y6, rfl, bx, hp1, hs, ls, gs⟩
      have fin : ∀ (sp : Spl) (t : Addr) (H2 H3 : Hp) (y5 y6 : Option V), Bx b H1 H2 → H2 t = none → GoodS mo sp → H3 = upd (upd H2 t (.tup (spV sp))) p (.lst (ws ++ [.ref t])) → ∃ (ws : List V) (sps : List Spl) (z4 z5 z6 : Option V), [some (.ref b), some (.int (m : Int)), some (.int mo), some (.ref p), some (V.int (0 + (i : Int))), y5, y6] = [some (.ref b), some (.int (m : Int)), some (.int mo), some (.ref p), z4, z5, z6] ∧ Bx b H H3 ∧ H3 p = some (.lst ws) ∧ SpsAt H3 ws sps ∧ sps.length = i + 1 ∧ ∀ sp ∈ sps, GoodS mo sp := by
        intro sp t H2 H3 y5 y6 bx2 ht g e
        have tp : t ≠ p := (ne_of_none (bx2.2 _ _ np hp1) ht).symm
        subst e
        refine ⟨_, sps ++ [sp], _, _, _, rfl, ((bx.trans bx2).same (same_new ht)).mut hp np, upd_same, SpsAt.app (ws := [.ref t]) (tps := [sp]) (And.intro ⟨t, rfl, by rw [upd_ne tp, upd_same]⟩ trivial) (hs.mono fun a xs ha => ?_), by rw [List.length_append, ls]; rfl, fun x hx => ?_⟩
        · have h2 := bx2.2 _ _ (bx.1.tup ha) ha
          have n1 : a ≠ p := fun z => by
            rw [z, hp1] at ha
            cases ha
          rw [upd_ne n1, upd_ne (ne_of_none h2 ht)]
          exact h2
        · rcases List.mem_append.mp hx with h | h
          · exact gs x h
          · rw [List.mem_singleton.mp h]
            exact g
      refine ⟨(by show 3 ≤ sizeLine; decide), fun q1 hq1 => ⟨_, rfl, b, 3, rfl, (bx.same (same_new hq1)).1, by decide, by decide, fun d H2 d0 d1 bx2 => ?_⟩⟩
      have nq : q1 ≠ b := BagAt.ne bx.1 hq1
      have hq2 := bx2.2 _ _ nq (upd_same (H := H1) (a := q1) (o := .lst [.str (Str.ofString "turn"), .str (Str.ofString "lose"), .str (Str.ofString "put")]))
      have bx12 : Bx b H1 H2 := ((Bx.refl bx.1).same (same_new hq1)).trans bx2
      have dd : d = 0 ∨ d = 1 ∨ d = 2 := by omega
      rcases dd with rfl | rfl | rfl
      · refine ⟨_, _, _, _, rfl, rfl, SqL.of hq2, atI_nat (j := 0) rfl, ?_⟩
        refine ⟨_, rfl, _, rfl, _, _, rfl, rfl, b, _, rfl, bx12.1, by omega, by omega, fun n H3 n0 n1 bx3 => ?_⟩
        obtain ⟨n, rfl⟩ := Int.eq_ofNat_of_zero_le n0
        have bx13 := bx12.trans bx3
        refine ⟨_, rfl, rfl, _, rfl, iteD0 (ne_word (by decide)) ?_⟩
        have hp3 := bx13.2 _ _ np hp1
        refine ⟨_, rfl, .inl ⟨rfl, _, SqL.of hp3⟩, _, rfl, _, rfl, (by show 2 ≤ sizeLine; decide), fun t ht => ?_⟩
        refine ⟨p, _, _, rfl, rfl, by rw [upd_ne (ne_of_none hp3 ht)]; exact hp3, by rw [hs.len]; exact szl (by omega), ?_⟩
        exact fin (.turn n) t H3 _ _ _ bx13 ht ⟨n1, trivial⟩ rfl
      · refine ⟨_, _, _, _, rfl, rfl, SqL.of hq2, atI_nat (j := 1) rfl, ?_⟩
        refine ⟨_, rfl, _, rfl, _, _, rfl, rfl, b, _, rfl, bx12.1, by omega, by omega, fun n H3 n0 n1 bx3 => ?_⟩
        obtain ⟨n, rfl⟩ := Int.eq_ofNat_of_zero_le n0
        have bx13 := bx12.trans bx3
        refine ⟨_, rfl, rfl, _, rfl, iteD0 (ne_word (by decide)) ?_⟩
        have hp3 := bx13.2 _ _ np hp1
        refine ⟨_, rfl, .inl ⟨rfl, _, SqL.of hp3⟩, _, rfl, _, rfl, (by show 2 ≤ sizeLine; decide), fun t ht => ?_⟩
        refine ⟨p, _, _, rfl, rfl, by rw [upd_ne (ne_of_none hp3 ht)]; exact hp3, by rw [hs.len]; exact szl (by omega), ?_⟩
        exact fin (.lose n) t H3 _ _ _ bx13 ht ⟨n1, trivial⟩ rfl
      · refine ⟨_, _, _, _, rfl, rfl, SqL.of hq2, atI_nat (j := 2) rfl, ?_⟩
        refine ⟨_, rfl, _, rfl, _, _, rfl, rfl, b, _, rfl, bx12.1, by omega, by omega, fun n H3 n0 n1 bx3 => ?_⟩
        obtain ⟨n, rfl⟩ := Int.eq_ofNat_of_zero_le n0
        have bx13 := bx12.trans bx3
        refine ⟨_, rfl, rfl, _, rfl, iteD1 rfl ?_⟩
        have hp3 := bx13.2 _ _ np hp1
        refine ⟨_, rfl, .inl ⟨rfl, _, SqL.of hp3⟩, _, rfl, _, rfl, _, rfl, b, 2, rfl, bx13.1, by decide, by decide, fun e H4 e0 e1 bx4 => ⟨_, _, _, rfl, rfl, two_len', bit_at e0 e1, (by show 3 ≤ sizeLine; decide), fun t ht => ?_⟩⟩
        have hp4 := bx4.2 _ _ np hp3
        refine ⟨p, _, _, rfl, rfl, by rw [upd_ne (ne_of_none hp4 ht)]; exact hp4, by rw [hs.len]; exact szl (by omega), ?_⟩
        exact fin (.put n (bitN e)) t H4 _ _ _ (bx13.trans bx4) ht ⟨n1, bitN_bit e⟩ rfl
    · rintro σ H1 ⟨ws, sps, y4, y5, y6, rfl, bx, hp1, hs, ls, gs⟩
      exact ⟨_, rfl, q p ws sps H1 hp bx hp1 hs (by rw [ls]) gs⟩

/-! ### the law's spoils, place by place -/
theorem lit_one (c : Nat) (h : c = 48 ∨ c = 49) : PySem.intText? (sOf [c]) = some ((c : Int) - 48) := by
  rcases h with rfl | rfl <;> decide +kernel
theorem walk_step {sp : Spl} {l : List Nat} {i : Nat} (hi : i ≤ l.length) : walkS sp (l.drop i) i = stepA sp i ++ ((if i < l.length then stepB sp i ((l[i]?).getD 0) else []) ++ (if i + 1 ≤ l.length then walkS sp (l.drop (i + 1)) (i + 1) else [])) := by
  by_cases h : i < l.length
  · rw [if_pos h, if_pos (by omega), List.drop_eq_getElem_cons h, List.getElem?_eq_getElem h]
    show stepA sp i ++ stepB sp i l[i] ++ walkS sp (l.drop (i + 1)) (i + 1) = _
    rw [List.append_assoc]
    rfl
  · rw [if_neg h, if_neg (by omega), List.drop_eq_nil_of_le (by omega)]
    show stepA sp i = _
    rw [List.append_nil, List.append_nil]
theorem walk_len (sp : Spl) (l : List Nat) : (walkS sp l 0).length ≤ l.length + 1 := by
  rw [walk_is]
  exact once_len l sp
def spLSpoiled (K : PySem.W.Frag) : Sp := fun vs H Q _ => ∃ (l : List Nat) (a : Addr) (ws : List V) (sps : List Spl), vs = [.str (sOf l), .ref a] ∧ SqL K H a ws ∧ SpsAt H ws sps ∧ Bts l ∧ (∀ sp ∈ sps, BitS sp) ∧ l.length ≤ 80000 ∧ sps.length ≤ 1000 ∧ Q (.str (sOf (spoilL l sps))) H
theorem spoil_bts : ∀ {sps : List Spl} {l : List Nat}, Bts l → (∀ sp ∈ sps, BitS sp) → Bts (spoilL l sps)
  | [], l, h, _ => h
  | sp :: r, l, h, k => spoil_bts (sps := r) (once_bts h (k sp (List.mem_cons_self ..))) fun x hx => k x (List.mem_cons_of_mem _ hx)
theorem ok_lspoiled {A : Ad} (T : Txt w K mg base A) : FnOk P w K mg base CX0 1 A.a_lspoiled A.d_lspoiled P_lspoiled (spLSpoiled K) := by
  refine T.F_lspoiled.ok sc_lspoiled (fun vs H Q E h => ?_) (fun cdv Ar outer s H vs Q E hr h => ?_)
  · obtain ⟨l, a, ws, sps, rfl, _⟩ := h
    rfl
  · obtain ⟨l, a, ws, sps, rfl, ha, hs, bl, bs, ll, ls, q⟩ := h
    refine ⟨_, (pss_cons (ps_for PassesOwn.never rfl (pi_list (pv 1)) (pg_name (i := 2) sc_lspoiled.nd rfl (Or.inl rfl))
      (pss_cons (ps_set (i := 3) sc_lspoiled.nd rfl (Or.inl rfl) pe_str)
      (pss_cons (ps_for PassesOwn.never rfl (pi_range1 (by rfl) T.z_range (pa_cons (pe_op op_add (pe_callB call_len_str (by rfl) T.z_len PySem.boot_len (pa_cons (pv 0) pa_nil)) pe_int) pa_nil)) (pg_name (i := 4) sc_lspoiled.nd rfl (Or.inl rfl))
      (Evl.pss_cut (ps_if (PW.pt (pw_and (pt_cmpR op_eq (pv 4) (pe_ix (r := rIxT K) ix_tup (pv 2) pe_int (fun _ _ => rfl)) (nomark _)) (pw_and1 (pt_cmpR op_eq (pe_ix (r := rIxT K) ix_tup (pv 2) pe_int (fun _ _ => rfl)) pe_str (nomark _)))))
      (pss_one (ps_set (i := 3) sc_lspoiled.nd rfl (Or.inl rfl) (pe_op op_add_str (pv 3) (pe_ix (r := rIxT K) ix_tup (pv 2) pe_int (fun _ _ => rfl))))) pss_nil)
      (pss_one (ps_if (PW.pt (pw_and (pt_cmpR op_lt (pv 4) (pe_callB call_len_str (by rfl) T.z_len PySem.boot_len (pa_cons (pv 0) pa_nil)) (nomark _)) (pw_and (pt_cmpR op_eq (pv 4) (pe_ix (r := rIxT K) ix_tup (pv 2) pe_int (fun _ _ => rfl)) (nomark _)) (pw_and1 (pt_cmpR op_eq (pe_ix (r := rIxT K) ix_tup (pv 2) pe_int (fun _ _ => rfl)) pe_str (nomark _))))))
      (pss_one (ps_set (i := 3) sc_lspoiled.nd rfl (Or.inl rfl) (pe_op op_add_str (pv 3) (pe_ix ix_str pe_str (pe_callTy call_int_str (by rfl) T.z_int (by decide +kernel) (pa_cons (pe_ix ix_str (pv 0) (pv 4) (fun _ _ => rfl)) pa_nil)) (fun _ _ => rfl))))) (pss_one (ps_if (PW.pt (pw_and (pt_cmpR op_lt (pv 4) (pe_callB call_len_str (by rfl) T.z_len PySem.boot_len (pa_cons (pv 0) pa_nil)) (nomark _)) (pw_and1 (PW.pt (pw_or (pt_cmpR op_ne (pv 4) (pe_ix (r := rIxT K) ix_tup (pv 2) pe_int (fun _ _ => rfl)) (nomark _)) (pw_or1 (pt_cmpR op_eq (pe_ix (r := rIxT K) ix_tup (pv 2) pe_int (fun _ _ => rfl)) pe_str (nomark _))))))))
      (pss_one (ps_set (i := 3) sc_lspoiled.nd rfl (Or.inl rfl) (pe_op op_add_str (pv 3) (pe_ix ix_str (pv 0) (pv 4) (fun _ _ => rfl))))) pss_nil))))))
      (pss_one (ps_set (i := 0) sc_lspoiled.nd rfl (Or.inl rfl) (pv 3))))))
      (pss_one (ps_ret (pv 0)))), ?_⟩
    refine ⟨_, rfl, a, rfl, ⟨_, ha⟩, for_list (K := K) (a := a) (xs := ws) (fun i σ H' => ∃ y2 y3 y4 : Option V, σ = [some (.str (sOf (spoilL l (sps.take i)))), some (.ref a), y2, y3, y4] ∧ H' = H) ⟨none, none, none, rfl, rfl⟩ (fun i σ H' _ ⟨_, _, _, _, e⟩ => by rw [e]; exact ha) ?_ ?_⟩
    · rintro k x σ H1 hx ⟨y2, y3, y4, rfl, rfl⟩
      obtain ⟨sp, c, hsp, rfl, hc⟩ := hs.get hx
      have hc := SqT.of (K := K) hc
      have l5 := spoil_len (sps.take k) l
      rw [List.length_take] at l5
      have b5 : Bts (spoilL l (sps.take k)) := spoil_bts bl fun x hx => bs x (List.mem_of_mem_take hx)
      have sm := spoil_more l hsp
      generalize spoilL l (sps.take k) = m at l5 b5 sm
      have l6 : m.length ≤ 90000 := by omega
      have hm : (sOf m).length ≤ sizeLine := by
        rw [sOf_len]
        exact sz (by omega)
      have wl := walk_len sp m
      refine ⟨_, rfl, _, rfl, hm, _, _, rfl, rfl, _, rfl, ?_⟩
      rw [sOf_len]
      refine ⟨by omega, by omega, ?_⟩
      rw [show ((m.length : Int) + 1).toNat = m.length + 1 by omega]
      refine for_range (lo := 0) (n := m.length + 1) (fun i σ H' => ∃ (f : List Nat) (y4 : Option V), σ = [some (.str (sOf m)), some (.ref a), some (.ref c), some (.str (sOf f)), y4] ∧ H' = H1 ∧ f ++ (if i ≤ m.length then walkS sp (m.drop i) i else []) = walkS sp m 0) ⟨[], _, rfl, rfl, by rw [if_pos (Nat.zero_le _)]; rfl⟩ ?_ ?_
      · rintro i σ H2 hi ⟨f, y4, rfl, rfl, hf⟩
        have hi' : i ≤ m.length := by omega
        rw [if_pos hi', walk_step hi'] at hf
        have fl : f.length + (stepA sp i).length + (if i < m.length then stepB sp i ((m[i]?).getD 0) else []).length ≤ 90001 := by
          have := congrArg List.length hf
          rw [List.length_append, List.length_append, List.length_append] at this
          omega
        have szA : ∀ (x y : List Nat), x.length + y.length ≤ 90001 → (sOf x).length + (sOf y).length ≤ sizeLine := fun x y h => by
          rw [sOf_len, sOf_len]
          exact sz (by omega)
        refine ⟨fun σ H' => σ = [some (.str (sOf m)), some (.ref a), some (.ref c), some (.str (sOf (f ++ stepA sp i))), some (.int (0 + (i : Int)))] ∧ H' = H2, ?_, ?_⟩
        · cases sp with
          | put n d =>
            refine ⟨_, rfl, _, rfl, _, _, _, _, rfl, rfl, hc, atI_nat (j := 1) rfl, rfl, _, rfl, ?_⟩
            have fl : f.length + (if i = n then [d] else []).length + _ ≤ 90001 := fl
            show if _ then _ else _
            by_cases e : i = n
            · refine iteD1 (vint.mpr (by omega)) ?_
              refine ⟨_, rfl, _, _, _, _, rfl, rfl, hc, atI_nat (j := 0) rfl, rfl, _, rfl, iteD1 rfl ?_⟩
              rw [if_pos e] at fl
              refine ⟨_, rfl, _, rfl, _, _, _, _, rfl, rfl, hc, atI_nat (j := 2) rfl, _, _, rfl, rfl, szA _ _ (by show f.length + 1 ≤ _; have : [d].length = 1 := rfl; omega), ?_⟩
              refine ⟨?_, rfl⟩
              rw [sOf_app, show stepA (.put n d) i = [d] from if_pos e]
              rfl
            · refine iteD0 (fun z => e (by have := vint.mp z; omega)) ?_
              refine iteF ?_
              refine ⟨?_, rfl⟩
              rw [show stepA (.put n d) i = [] from if_neg e, List.append_nil]
              rfl
          | turn n =>
            refine ⟨_, rfl, _, rfl, _, _, _, _, rfl, rfl, hc, atI_nat (j := 1) rfl, rfl, _, rfl, ?_⟩
            refine ite2 (fun e => ?_) (fun e => ?_)
            · refine ⟨_, rfl, _, _, _, _, rfl, rfl, hc, atI_nat (j := 0) rfl, rfl, _, rfl, iteD0 (ne_word (by decide)) ?_⟩
              refine ⟨?_, rfl⟩
              rw [show stepA (.turn n) i = [] from rfl, List.append_nil]
              rfl
            · refine iteF ⟨?_, rfl⟩
              rw [show stepA (.turn n) i = [] from rfl, List.append_nil]
              rfl
          | lose n =>
            refine ⟨_, rfl, _, rfl, _, _, _, _, rfl, rfl, hc, atI_nat (j := 1) rfl, rfl, _, rfl, ?_⟩
            refine ite2 (fun e => ?_) (fun e => ?_)
            · refine ⟨_, rfl, _, _, _, _, rfl, rfl, hc, atI_nat (j := 0) rfl, rfl, _, rfl, iteD0 (ne_word (by decide)) ?_⟩
              refine ⟨?_, rfl⟩
              rw [show stepA (.lose n) i = [] from rfl, List.append_nil]
              rfl
            · refine iteF ⟨?_, rfl⟩
              rw [show stepA (.lose n) i = [] from rfl, List.append_nil]
              rfl
        · rintro σ H3 ⟨rfl, rfl⟩
          generalize hg : f ++ stepA sp i = g at hf
          rw [← List.append_assoc, hg] at hf
          have gl : g.length + (if i < m.length then stepB sp i ((m[i]?).getD 0) else []).length ≤ 90001 := by
            rw [← hg, List.length_append]
            exact fl
          -- what is left to be shown
          have fin : ∀ (h : List Nat), h = g ++ (if i < m.length then stepB sp i ((m[i]?).getD 0) else []) → ∃ (f : List Nat) (y4 : Option V), [some (V.str (sOf m)), some (.ref a), some (.ref c), some (.str (sOf h)), some (.int (0 + (i : Int)))] = [some (.str (sOf m)), some (.ref a), some (.ref c), some (.str (sOf f)), y4] ∧ H3 = H3 ∧ f ++ (if i + 1 ≤ m.length then walkS sp (m.drop (i + 1)) (i + 1) else []) = walkS sp m 0 := fun h e => ⟨h, _, rfl, rfl, by rw [e, List.append_assoc]; exact hf⟩
          by_cases h : i < m.length
          · have e1 : m[i]? = some m[i] := List.getElem?_eq_getElem h
            have at1 : atI (sOf m).cps.toList (0 + (i : Int)) = some m[i] := by
              rw [Int.zero_add]
              exact sOf_at e1
            have lt : (0 + (i : Int)) < ((sOf m).length : Int) := by
              rw [sOf_len]
              omega
            rw [if_pos h, e1] at gl fin
            have one : [m[i]].length = 1 := rfl
            cases sp with
            | put n d =>
              have gl : g.length + 1 ≤ 90001 := gl
              have T2 : ∀ (Z : Prop), Z → if decide ((0 + (i : Int)) < ((sOf m).length : Int)) = true then Z else Z := fun Z z => iteD1 lt z
              refine ⟨_, rfl, _, rfl, _, rfl, hm, _, _, rfl, rfl, _, rfl, iteD1 lt ?_⟩
              refine ⟨_, rfl, _, rfl, _, _, _, _, rfl, rfl, hc, atI_nat (j := 1) rfl, rfl, _, rfl, ?_⟩
              by_cases e : i = n
              · refine iteD1 (vint.mpr (by omega)) ?_
                refine ⟨_, rfl, _, _, _, _, rfl, rfl, hc, atI_nat (j := 0) rfl, rfl, _, rfl, iteD0 (ne_word (by decide)) ?_⟩
                refine ⟨_, rfl, _, rfl, _, rfl, hm, _, _, rfl, rfl, _, rfl, iteD1 lt ?_⟩
                refine ⟨_, rfl, _, rfl, _, _, _, _, rfl, rfl, hc, atI_nat (j := 1) rfl, rfl, _, rfl, iteN0 (vint.mpr (by omega)) ?_⟩
                refine ⟨_, rfl, _, _, _, _, rfl, rfl, hc, atI_nat (j := 0) rfl, rfl, _, rfl, iteD1 rfl ?_⟩
                refine ⟨_, rfl, _, rfl, _, rfl, _, _, _, rfl, rfl, hm, at1, _, _, rfl, rfl, szA _ [m[i]] (by omega), ?_⟩
                have := fin (g ++ [m[i]]) rfl
                rw [← sOf_app] at this
                exact this
              · refine iteD0 (fun z => e (by have := vint.mp z; omega)) (iteF ?_)
                refine ⟨_, rfl, _, rfl, _, rfl, hm, _, _, rfl, rfl, _, rfl, iteD1 lt ?_⟩
                refine ⟨_, rfl, _, rfl, _, _, _, _, rfl, rfl, hc, atI_nat (j := 1) rfl, rfl, _, rfl, iteN1 (fun z => e (by have := vint.mp z; omega)) (iteT ?_)⟩
                refine ⟨_, rfl, _, rfl, _, rfl, _, _, _, rfl, rfl, hm, at1, _, _, rfl, rfl, szA _ [m[i]] (by omega), ?_⟩
                have := fin (g ++ [m[i]]) rfl
                rw [← sOf_app] at this
                exact this
            | turn n =>
              refine ⟨_, rfl, _, rfl, _, rfl, hm, _, _, rfl, rfl, _, rfl, iteD1 lt ?_⟩
              refine ⟨_, rfl, _, rfl, _, _, _, _, rfl, rfl, hc, atI_nat (j := 1) rfl, rfl, _, rfl, ?_⟩
              by_cases e : i = n
              · have gl : g.length + 1 ≤ 90001 := by
                  have : (if i = n then [flipB m[i]] else [m[i]]).length = 1 := by rw [if_pos e]; rfl
                  have gl : g.length + (if i = n then [flipB m[i]] else [m[i]]).length ≤ 90001 := gl
                  omega
                have fin := fin (g ++ [flipB m[i]]) (by show _ = g ++ (if i = n then [flipB m[i]] else [m[i]]); rw [if_pos e])
                rw [← sOf_app] at fin
                refine iteD1 (vint.mpr (by omega)) ?_
                refine ⟨_, rfl, _, _, _, _, rfl, rfl, hc, atI_nat (j := 0) rfl, rfl, _, rfl, iteD1 rfl ?_⟩
                have bm := b5.at e1
                have fl10 : atI (Str.ofString "10").cps.toList ((m[i] : Int) - 48) = some (flipB m[i]) := by
                  rcases bm with z | z <;> rw [z] <;> rfl
                refine ⟨_, rfl, _, rfl, _, rfl, _, _, _, rfl, rfl, hm, at1, _, _, rfl, lit_one _ bm, (by show 1 ≤ 640; decide), _, _, _, rfl, rfl, (by decide), fl10, _, _, rfl, rfl, szA _ [flipB m[i]] (by show g.length + 1 ≤ _; omega), ?_⟩
                exact fin
              · have gl : g.length + 1 ≤ 90001 := by
                  have : (if i = n then [flipB m[i]] else [m[i]]).length = 1 := by rw [if_neg e]; rfl
                  have gl : g.length + (if i = n then [flipB m[i]] else [m[i]]).length ≤ 90001 := gl
                  omega
                have fin := fin (g ++ [m[i]]) (by show _ = g ++ (if i = n then [flipB m[i]] else [m[i]]); rw [if_neg e])
                rw [← sOf_app] at fin
                refine iteD0 (fun z => e (by have := vint.mp z; omega)) (iteF ?_)
                refine ⟨_, rfl, _, rfl, _, rfl, hm, _, _, rfl, rfl, _, rfl, iteD1 lt ?_⟩
                refine ⟨_, rfl, _, rfl, _, _, _, _, rfl, rfl, hc, atI_nat (j := 1) rfl, rfl, _, rfl, iteN1 (fun z => e (by have := vint.mp z; omega)) (iteT ?_)⟩
                refine ⟨_, rfl, _, rfl, _, rfl, _, _, _, rfl, rfl, hm, at1, _, _, rfl, rfl, szA _ [m[i]] (by omega), ?_⟩
                exact fin
            | lose n =>
              refine ⟨_, rfl, _, rfl, _, rfl, hm, _, _, rfl, rfl, _, rfl, iteD1 lt ?_⟩
              refine ⟨_, rfl, _, rfl, _, _, _, _, rfl, rfl, hc, atI_nat (j := 1) rfl, rfl, _, rfl, ?_⟩
              by_cases e : i = n
              · have fin := fin g (by show _ = g ++ (if i = n then [] else [m[i]]); rw [if_pos e, List.append_nil])
                refine iteD1 (vint.mpr (by omega)) ?_
                refine ⟨_, rfl, _, _, _, _, rfl, rfl, hc, atI_nat (j := 0) rfl, rfl, _, rfl, iteD0 (ne_word (by decide)) ?_⟩
                refine ⟨_, rfl, _, rfl, _, rfl, hm, _, _, rfl, rfl, _, rfl, iteD1 lt ?_⟩
                refine ⟨_, rfl, _, rfl, _, _, _, _, rfl, rfl, hc, atI_nat (j := 1) rfl, rfl, _, rfl, iteN0 (vint.mpr (by omega)) ?_⟩
                refine ⟨_, rfl, _, _, _, _, rfl, rfl, hc, atI_nat (j := 0) rfl, rfl, _, rfl, iteD0 (ne_word (by decide)) ?_⟩
                exact fin
              · have gl : g.length + 1 ≤ 90001 := by
                  have : (if i = n then [] else [m[i]]).length = 1 := by rw [if_neg e]; rfl
                  have gl : g.length + (if i = n then [] else [m[i]]).length ≤ 90001 := gl
                  omega
                have fin := fin (g ++ [m[i]]) (by show _ = g ++ (if i = n then [] else [m[i]]); rw [if_neg e])
                rw [← sOf_app] at fin
                refine iteD0 (fun z => e (by have := vint.mp z; omega)) (iteF ?_)
                refine ⟨_, rfl, _, rfl, _, rfl, hm, _, _, rfl, rfl, _, rfl, iteD1 lt ?_⟩
                refine ⟨_, rfl, _, rfl, _, _, _, _, rfl, rfl, hc, atI_nat (j := 1) rfl, rfl, _, rfl, iteN1 (fun z => e (by have := vint.mp z; omega)) (iteT ?_)⟩
                refine ⟨_, rfl, _, rfl, _, rfl, _, _, _, rfl, rfl, hm, at1, _, _, rfl, rfl, szA _ [m[i]] (by omega), ?_⟩
                exact fin
          · have lt : ¬ (0 + (i : Int)) < ((sOf m).length : Int) := by
              rw [sOf_len]
              omega
            refine ⟨_, rfl, _, rfl, _, rfl, hm, _, _, rfl, rfl, _, rfl, iteD0 lt (iteF ?_)⟩
            refine ⟨_, rfl, _, rfl, _, rfl, hm, _, _, rfl, rfl, _, rfl, iteD0 lt (iteF ?_)⟩
            exact fin g (by rw [if_neg h, List.append_nil])
      · rintro σ H2 ⟨f, y4, rfl, rfl, hf⟩
        rw [if_neg (by omega), List.append_nil, walk_is, ← sm] at hf
        rw [hf]
        exact ⟨_, rfl, _, _, _, rfl, rfl⟩
    · rintro σ H1 ⟨y2, y3, y4, rfl, rfl⟩
      rw [hs.len, List.take_length]
      exact ⟨_, rfl, q⟩

--SPLIT
def spSigns : Sp := fun vs H Q _ => vs = [] ∧ ∀ z : Str, z.length = 94 → Q (.str z) H
theorem ok_signs {A : Ad} (T : Txt w K mg base A) : FnOk P w K mg base CX0 1 A.a_signs A.d_signs P_signs spSigns := by
  refine T.F_signs.ok sc_signs (fun vs H Q E h => ?_) (fun cdv Ar outer s H vs Q E hr h => ?_)
  · obtain ⟨rfl, _⟩ := h
    rfl
  · obtain ⟨rfl, q⟩ := h
    refine ⟨_, (pss_one (ps_ret (pe_op op_add_str pe_str pe_str))), ?_⟩
    refine ⟨_, _, rfl, rfl, ?_, ?_⟩
    · decide +kernel
    · exact q _ (by decide +kernel)
def spOdd : Sp := fun vs H Q _ => ∃ b : Addr, vs = [.ref b] ∧ BagAt H b ∧ ∀ v H', Tg b H' v → (∀ z, v = .str z → z.length ≤ 8) → Bx b H H' → Q v H'
theorem pick_at {xs : List V} {j : Int} (j0 : 0 ≤ j) (j1 : j < (xs.length : Int)) : ∃ v, atI xs j = some v ∧ v ∈ xs := by
  obtain ⟨k, rfl⟩ := Int.eq_ofNat_of_zero_le j0
  have hk : k < xs.length := by omega
  exact ⟨xs[k], atI_nat (List.getElem?_eq_getElem hk), List.getElem_mem hk⟩
theorem pick_sign {z : Str} {j : Int} (j0 : 0 ≤ j) (j1 : j < (z.length : Int)) : ∃ c, atI z.cps.toList j = some c := by
  obtain ⟨k, rfl⟩ := Int.eq_ofNat_of_zero_le j0
  have hk : k < z.cps.toList.length := by
    rw [Array.length_toList]
    show k < z.length
    omega
  exact ⟨z.cps.toList[k], atI_nat (List.getElem?_eq_getElem hk)⟩
theorem ok_odd {A : Ad} (T : Txt w K mg base A) : FnOk P w K mg base CX0 2 A.a_odd A.d_odd P_odd spOdd := by
  have G_draw := ok_draw (P := P) (w := w) (base := base) T
  refine T.F_odd.ok sc_odd (fun vs H Q E h => ?_) (fun cdv Ar outer s H vs Q E hr h => ?_)
  · obtain ⟨b, rfl, _⟩ := h
    rfl
  · obtain ⟨b, rfl, hb, q⟩ := h
    refine ⟨_, (pss_cons (ps_set (i := 1) sc_odd.nd rfl (Or.inl rfl) (pe_lstW (pa_cons pe_non (pa_cons pe_bl (pa_cons pe_bl (pa_cons pe_int (pa_cons pe_int (pa_cons (pe_un un_neg pe_int) (pa_cons (pe_op op_pow pe_int pe_int) (pa_cons pe_str (pa_cons pe_str (pa_cons pe_str (pa_cons pe_str (pa_cons (pe_tupW pa_nil) (pa_cons (pe_lstW pa_nil) (pa_cons (pe_lstW (pa_cons pe_str pa_nil)) (pa_cons (pe_tupW (pa_cons pe_str (pa_cons pe_int pa_nil))) (pa_cons (pe_tupW (pa_cons pe_non pa_nil)) pa_nil))))))))))))))))))
      (pss_one (ps_ret (pe_ix (r := rIxL K) ix_list (pv 1) (pe_call G_draw (hr.mono (by decide)) (by rfl) T.g_draw T.F_draw.kp T.b_draw .nil pass0 (pa_cons (pv 0) (pa_cons pe_int pa_nil))) (fun _ _ => rfl))))), ?_⟩
    refine ⟨_, rfl, _, _, rfl, rfl, ⟨by decide, by decide, by decide⟩, (by show 0 ≤ 100000; decide), fun p1 H1 n1 s1 e1 => ⟨(by show 0 ≤ 100000; decide), fun p2 H2 n2 s2 e2 => ⟨(by show 1 ≤ 100000; decide), fun p3 H3 n3 s3 e3 => ⟨(by show 2 ≤ 100000; decide), fun p4 H4 n4 s4 e4 => ⟨(by show 1 ≤ 100000; decide), fun p5 H5 n5 s5 e5 => ⟨(by show 16 ≤ 100000; decide), fun p H6 n6 s6 e6 => ?_⟩⟩⟩⟩⟩⟩
    have b1 : Bx b H H1 := (Bx.refl hb).same s1
    have b2 := b1.same s2
    have b3 := b2.same s3
    have b4 := b3.same s4
    have b5 := b4.same s5
    have b6 := b5.same s6
    have np : p ≠ b := BagAt.ne b5.1 n6
    refine ⟨_, rfl, _, rfl, b, 16, rfl, b6.1, by decide, by decide, fun j H7 j0 j1 bx7 => ?_⟩
    obtain ⟨v, hv, mv⟩ := pick_at (xs := [.non, .bl true, .bl false, .int 0, .int 8, .int (-1), .int (10 ^ (29 : Int).toNat), .str (Str.ofString ""), .str (Str.ofString "."), .str (Str.ofString "#"), .str (Str.ofString "1"), .ref p1, .ref p2, .ref p3, .ref p4, .ref p5]) j0 (by show j < 16; exact j1)
    refine ⟨_, _, _, v, rfl, rfl, SqL.of (bx7.2 _ _ np e6), hv, ?_⟩
    have sl : ∀ z, v = .str z → z.length ≤ 8 := by
      intro z e
      simp only [List.mem_cons, List.not_mem_nil, or_false] at mv
      rcases mv with rfl | rfl | rfl | rfl | rfl | rfl | rfl | rfl | rfl | rfl | rfl | rfl | rfl | rfl | rfl | rfl <;> cases e <;> decide +kernel
    refine q v H7 (Tg.bx (H := H6) ?_ b6.1 bx7) sl (b6.trans bx7)
    have f1 := s6 _ _ (s5 _ _ (s4 _ _ (s3 _ _ (s2 _ _ e1))))
    have f2 := s6 _ _ (s5 _ _ (s4 _ _ (s3 _ _ e2)))
    have f3 := s6 _ _ (s5 _ _ (s4 _ _ e3))
    have f4 := s6 _ _ (s5 _ _ e4)
    have f5 := s6 _ _ e5
    have flat : ∀ {v : V}, Flat v → Tg b H6 v := fun h => .inl h
    simp only [List.mem_cons, List.not_mem_nil, or_false] at mv
    rcases mv with rfl | rfl | rfl | rfl | rfl | rfl | rfl | rfl | rfl | rfl | rfl | rfl | rfl | rfl | rfl | rfl
    · exact flat (.inl rfl)
    · exact flat (.inr (.inl ⟨_, rfl⟩))
    · exact flat (.inr (.inl ⟨_, rfl⟩))
    · exact flat (.inr (.inr (.inl ⟨_, rfl⟩)))
    · exact flat (.inr (.inr (.inl ⟨_, rfl⟩)))
    · exact flat (.inr (.inr (.inl ⟨_, rfl⟩)))
    · exact flat (.inr (.inr (.inl ⟨_, rfl⟩)))
    · exact Tg.str (by decide +kernel)
    · exact Tg.str (by decide +kernel)
    · exact Tg.str (by decide +kernel)
    · exact Tg.str (by decide +kernel)
    · exact .inr (.inr ⟨p1, _, rfl, f1, (by show 0 ≤ 1000; decide), fun u hu => nomatch hu⟩)
    · exact .inr (.inl ⟨p2, _, rfl, BagAt.ne b1.1 n2, f2⟩)
    · exact .inr (.inl ⟨p3, _, rfl, BagAt.ne b2.1 n3, f3⟩)
    · refine .inr (.inr ⟨p4, _, rfl, f4, (by show 2 ≤ 1000; decide), fun u hu => ?_⟩)
      simp only [List.mem_cons, List.not_mem_nil, or_false] at hu
      rcases hu with rfl | rfl
      · exact It.str (by decide +kernel)
      · exact .inl (.inr (.inr (.inl ⟨_, rfl⟩)))
    · refine .inr (.inr ⟨p5, _, rfl, f5, (by show 1 ≤ 1000; decide), fun u hu => ?_⟩)
      rw [List.mem_singleton.mp hu]
      exact .inl (.inl rfl)

/-! ### tellings of runs -/
theorem tab_bts (d : Bool) : ∀ u ∈ tabW d, isB u = true := by
  cases d
  · decide +kernel
  · decide +kernel
theorem word_bts (d : Bool) (i : Nat) : Bts ((tabW d).getD i []) := by
  rw [List.getD_eq_getElem?_getD]
  cases e : (tabW d)[i]? with
  | none => exact Bts.nil
  | some u => exact isB_iff.mp (tab_bts d u (List.mem_of_getElem? e))
theorem run_bts (d : Bool) (r : Nat) : Bts (runT (tabW d) r) := by
  unfold runT
  split
  · exact word_bts d r
  · exact (word_bts d _).app (word_bts d _)
theorem plainF_bts : ∀ (rs : List Nat) (d : Bool), Bts (plainF rs d)
  | [], _ => Bts.nil
  | r :: rs, d => (run_bts d r).app (plainF_bts rs (!d))
theorem plainB_bts (l : List Nat) : Bts (plainB l) := plainF_bts _ _
def spSplit : Sp := fun vs H Q _ => ∃ (p : Addr) (l : List Nat), vs = [.ref p, .str (sOf l)] ∧ TabsAt H p ∧ Row l ∧ 1 ≤ l.length ∧ l.length ≤ 64 ∧ ∀ r : List Nat, r.length ≤ 3000 → Q (.str (sOf r)) H
theorem ok_split_run {A : Ad} (T : Txt w K mg base A) : FnOk P w K mg base CX0 3 A.a_split_run A.d_split_run P_split_run spSplit := by
  have G_plain := ok_plain (P := P) (w := w) (base := base) T
  have G_run := ok_run (P := P) (w := w) (base := base) T
  refine T.F_split_run.ok sc_split_run (fun vs H Q E h => ?_) (fun cdv Ar outer s H vs Q E hr h => ?_)
  · obtain ⟨p, l, rfl, _⟩ := h
    rfl
  · obtain ⟨p, l, rfl, hTA, rl, l0, l1, q⟩ := h
    refine ⟨_, (pss_cons (ps_set (i := 2) sc_split_run.nd rfl (Or.inl rfl) (pe_call G_plain (hr.mono (by decide)) (by rfl) T.g_plain T.F_plain.kp T.b_plain .nil pass0 (pa_cons (pv 0) (pa_cons (pv 1) pa_nil))))
      (pss_cons (ps_set (i := 3) sc_split_run.nd rfl (Or.inl rfl) (pe_callB call_len_str (by rfl) T.z_len PySem.boot_len (pa_cons (pv 1) pa_nil)))
      (pss_cons (ps_for PassesOwn.never rfl (pi_range3 (by rfl) T.z_range (pa_cons (pe_op op_sub (pe_callB call_len_str (by rfl) T.z_len PySem.boot_len (pa_cons (pv 1) pa_nil)) pe_int) (pa_cons pe_int (pa_cons (pe_un un_neg pe_int) pa_nil)))) (pg_name (i := 4) sc_split_run.nd rfl (Or.inl rfl))
      (pss_one (ps_if (pt_cmpR op_ne (pe_ix ix_str (pv 1) (pv 4) (fun _ _ => rfl)) (pe_ix ix_str (pv 1) pe_int (fun _ _ => rfl)) (nomark _))
      (pss_one (ps_set (i := 3) sc_split_run.nd rfl (Or.inl rfl) (pv 4))) pss_nil)))
      (pss_cons (ps_if (PW.pt (pw_or (pt_cmpR op_eq (pe_ix ix_str (pv 1) pe_int (fun _ _ => rfl)) pe_str (nomark _)) (pw_or1 (pt_cmpR op_lt (pv 3) pe_int (nomark _)))))
      (pss_one (ps_ret (pv 2))) pss_nil)
      (pss_cons (ps_set (i := 5) sc_split_run.nd rfl (Or.inl rfl) (pe_call G_run (hr.mono (by decide)) (by rfl) T.g_run T.F_run.kp T.b_run .nil pass0 (pa_cons (pv 0) (pa_cons pe_str (pa_cons (pv 3) pa_nil)))))
      (pss_cons (ps_set (i := 6) sc_split_run.nd rfl (Or.inl rfl) (pe_op op_add_str (pe_op op_add_str (pe_call G_run (hr.mono (by decide)) (by rfl) T.g_run T.F_run.kp T.b_run .nil pass0 (pa_cons (pv 0) (pa_cons pe_str (pa_cons pe_int pa_nil)))) (pe_call G_run (hr.mono (by decide)) (by rfl) T.g_run T.F_run.kp T.b_run .nil pass0 (pa_cons (pv 0) (pa_cons pe_str (pa_cons pe_int pa_nil))))) (pe_call G_run (hr.mono (by decide)) (by rfl) T.g_run T.F_run.kp T.b_run .nil pass0 (pa_cons (pv 0) (pa_cons pe_str (pa_cons (pe_op op_sub (pv 3) pe_int) pa_nil))))))
      (pss_one (ps_ret (pe_op op_add_str (pv 6) (pe_slice sl_str (pv 2) (po_some (pe_callB call_len_str (by rfl) T.z_len PySem.boot_len (pa_cons (pv 5) pa_nil))) po_none)))))))))), ?_⟩
    have hl : (sOf l).length ≤ sizeLine := by
      rw [sOf_len]
      exact sz (by omega)
    have lP := plainB_len rl l1
    have hPl : (sOf (plainB l)).length ≤ sizeLine := by
      rw [sOf_len]
      exact sz (by omega)
    have at_ : ∀ j, j < l.length → ∃ c, l[j]? = some c ∧ atI (sOf l).cps.toList (j : Int) = some c := fun j hj => ⟨l[j], List.getElem?_eq_getElem hj, sOf_at (List.getElem?_eq_getElem hj)⟩
    obtain ⟨c0, hc0, at0⟩ := at_ 0 (by omega)
    refine ⟨_, rfl, _, rfl, p, l, rfl, hTA, rl, l1, ?_⟩
    refine ⟨_, rfl, _, rfl, hl, ?_⟩
    rw [sOf_len]
    refine ⟨_, rfl, _, rfl, hl, _, _, rfl, rfl, _, rfl, _, _, _, _, rfl, RgC.neg (by rw [sOf_len]; omega) (by rw [sOf_len]; omega) (by decide) (by decide), ?_⟩
    rw [sOf_len, show ((l.length : Int) - 1 - 0).toNat = l.length - 1 by omega]
    refine for_it walk_rangeC (fun i σ H' => ∃ (mn : Nat) (y4 y5 y6 : Option V), σ = [some (.ref p), some (.str (sOf l)), some (.str (sOf (plainB l))), some (.int (mn : Int)), y4, y5, y6] ∧ H' = H ∧ 1 ≤ mn ∧ mn ≤ l.length) ⟨l.length, none, none, none, rfl, rfl, l0, Nat.le_refl _⟩ (fun _ _ _ _ _ => trivial) ?_ ?_
    · rintro i x σ H1 H2 hi ⟨mn, y4, y5, y6, rfl, rfl, mn0, mn1⟩ ⟨rfl, rfl⟩
      have ep : ((l.length : Int) - 1 + (i : Int) * (-1)) = ((l.length - 1 - i : Nat) : Int) := by omega
      obtain ⟨c, hc, atc⟩ := at_ (l.length - 1 - i) (by omega)
      refine ⟨_, rfl, _, rfl, _, _, _, rfl, rfl, hl, (by rw [ep]; exact atc), _, rfl, _, _, _, rfl, rfl, hl, at0, rfl, _, rfl, ite2 (fun e => ?_) (fun e => ?_)⟩
      · refine ⟨_, rfl, l.length - 1 - i, some (.int ((l.length : Int) - 1 + (i : Int) * (-1))), y5, y6, ?_, rfl, by omega, by omega⟩
        show List.set (List.set _ 4 (some (V.int ((l.length : Int) - 1 + (i : Int) * (-1))))) 3 (some (V.int ((l.length : Int) - 1 + (i : Int) * (-1)))) = _
        rw [ep]
        rfl
      · exact ⟨mn, _, y5, y6, rfl, rfl, mn0, mn1⟩
    · rintro σ H1 ⟨mn, y4, y5, y6, rfl, rfl, mn0, mn1⟩
      obtain ⟨t0, t1, t2, hp, h0, h1, h2⟩ := hTA
      refine ⟨_, rfl, _, _, _, rfl, rfl, hl, at0, rfl, _, rfl, ite2 (fun e => ?_) (fun e => ?_)⟩
      · exact ⟨_, rfl, q _ (by omega)⟩
      · refine ⟨_, rfl, _, _, rfl, rfl, _, rfl, ite2 (fun e2 => ?_) (fun e2 => ?_)⟩
        · exact ⟨_, rfl, q _ (by omega)⟩
        · have mn2 : 2 ≤ mn := by
            have : ¬ ((mn : Int) < 2) := fun z => e2 (decide_eq_true z)
            omega
          have r1 := runT_len (d := false) (r := mn) (by omega)
          have r2 := runT_len (d := false) (r := 1) (by omega)
          have r3 := runT_len (d := true) (r := 0) (by omega)
          have r4 := runT_len (d := false) (r := mn - 1) (by omega)
          refine ⟨_, rfl, _, rfl, p, t0, t1, t2, false, mn, _, rfl, rfl, by omega, hp, h0, h1, ?_⟩
          refine ⟨_, rfl, p, t0, t1, t2, false, 1, _, rfl, rfl, by omega, hp, h0, h1, _, rfl, p, t0, t1, t2, true, 0, _, rfl, rfl, by omega, hp, h0, h1, _, _, rfl, rfl, ?_, _, rfl, _, rfl, _, _, rfl, rfl, p, t0, t1, t2, false, mn - 1, _, rfl, by omega, by omega, hp, h0, h1, _, _, rfl, rfl, ?_, ?_⟩
          · rw [sOf_len, sOf_len]
            exact sz (by omega)
          · rw [sOf_app, sOf_len, sOf_len, List.length_append]
            exact sz (by omega)
          rw [sOf_app, sOf_app]
          refine ⟨_, rfl, _, rfl, _, rfl, _, rfl, (by rw [sOf_len]; exact sz (by omega)), _, rfl, _, rfl, hPl, _, _, rfl, rfl, ?_, ?_⟩
          · rw [sOf_len (runT (tabW false) mn), cutS_from, sOf_len, sOf_len, List.length_append, List.length_append, List.length_drop]
            exact sz (by omega)
          · rw [sOf_len (runT (tabW false) mn), cutS_from, sOf_app]
            refine q _ ?_
            rw [List.length_append, List.length_append, List.length_append, List.length_drop]
            omega
--SPLIT
/-! ### things told -/
theorem cut_le (z : Str) (lo hi : Option Int) (n : Nat) (h : z.length ≤ n) : (cutS z lo hi).length ≤ n := Nat.le_trans (cutS_length z lo hi) h
theorem one_len (c : Nat) : (⟨#[c]⟩ : Str).length = 1 := rfl
theorem app_len (x y : Str) : (x ++ y).length = x.length + y.length := by
  show (x.cps ++ y.cps).size = _
  rw [Array.size_append]
  rfl
theorem thg_str {H : Hp} {z : Str} (h : z.length ≤ 50000) : Thg H (.str z) := .inr ⟨z.cps.toList, by rw [← str_sOf], by rw [Array.length_toList]; exact h⟩
theorem tg_thg {b : Addr} {H : Hp} {v : V} (h : Tg b H v) (k : ∀ z, v = .str z → z.length ≤ 8) : Thg H v := by
  rcases h with (rfl | ⟨x, rfl⟩ | ⟨i, rfl⟩ | ⟨z, rfl, l⟩) | ⟨a, xs, rfl, n, e⟩ | ⟨a, xs, rfl, e, _⟩
  · exact .inl (.inl rfl)
  · exact .inl (.inr (.inl ⟨x, rfl⟩))
  · exact .inl (.inr (.inr (.inl ⟨i, rfl⟩)))
  · exact thg_str (by have := k z rfl; omega)
  · exact .inl (.inr (.inr (.inr (.inl ⟨a, xs, rfl, e⟩))))
  · exact .inl (.inr (.inr (.inr (.inr ⟨a, xs, rfl, e⟩))))
theorem th_nil {H : Hp} : ∀ u ∈ ([] : List V), Thg H u := fun _ h => nomatch h
theorem th_cons {H : Hp} {x : V} {xs : List V} (h1 : Thg H x) (h2 : ∀ u ∈ xs, Thg H u) : ∀ u ∈ x :: xs, Thg H u := fun u hu => by
  rcases List.mem_cons.mp hu with h | h
  · rw [h]
    exact h1
  · exact h2 u h
theorem th_app {H : Hp} {xs zs : List V} (h1 : ∀ u ∈ xs, Thg H u) (h2 : ∀ u ∈ zs, Thg H u) : ∀ u ∈ xs ++ zs, Thg H u := fun u hu => by
  rcases List.mem_append.mp hu with h | h
  · exact h1 u h
  · exact h2 u h
def spThings : Sp := fun vs H Q _ => ∃ (b tp : Addr) (l : List Nat), vs = [.ref b, .ref tp, .str (sOf l)] ∧ BagAt H b ∧ tp ≠ b ∧ TabsAt H tp ∧ (∀ H', Bx b H H' → TabsAt H' tp) ∧ Row l ∧ 1 ≤ l.length ∧ l.length ≤ 64 ∧
  ∀ p xs H', H p = none → H' p = some (.lst xs) → xs.length ≤ 1000 → (∀ v ∈ xs, Thg H' v) → Bx b H H' → Q (.ref p) H'
theorem ok_things {A : Ad} (T : Txt w K mg base A) : FnOk P w K mg base CX0 4 A.a_things A.d_things P_things spThings := by
  have G_plain := ok_plain (P := P) (w := w) (base := base) T
  have G_signs := ok_signs (P := P) (w := w) (base := base) T
  have G_draw := ok_draw (P := P) (w := w) (base := base) T
  have G_lspoiled := ok_lspoiled (P := P) (w := w) (base := base) T
  have G_spoils := ok_spoils (P := P) (w := w) (base := base) T
  have G_odd := ok_odd (P := P) (w := w) (base := base) T
  have G_split_run := ok_split_run (P := P) (w := w) (base := base) T
  refine T.F_things.ok sc_things (fun vs H Q E h => ?_) (fun cdv Ar outer s H vs Q E hr h => ?_)
  · obtain ⟨b, tp, l, rfl, _⟩ := h
    rfl
  · obtain ⟨b, tp, l, rfl, hb, ntb, hTA, kTA, rl, l0, l1, q⟩ := h
    refine ⟨_, (pss_cons (ps_set (i := 3) sc_things.nd rfl (Or.inl rfl) (pe_call G_plain (hr.mono (by decide)) (by rfl) T.g_plain T.F_plain.kp T.b_plain .nil pass0 (pa_cons (pv 1) (pa_cons (pv 2) pa_nil))))
      (pss_cons (ps_set (i := 4) sc_things.nd rfl (Or.inl rfl) (pe_call0 G_signs (hr.mono (by decide)) (by rfl) T.g_signs T.F_signs.kp T.b_signs .nil pass0))
      (pss_cons (ps_set (i := 5) sc_things.nd rfl (Or.inl rfl) (pe_call G_draw (hr.mono (by decide)) (by rfl) T.g_draw T.F_draw.kp T.b_draw .nil pass0 (pa_cons (pv 0) (pa_cons (pe_op op_add (pe_callB call_len_str (by rfl) T.z_len PySem.boot_len (pa_cons (pv 3) pa_nil)) pe_int) pa_nil))))
      (pss_cons (ps_set (i := 6) sc_things.nd rfl (Or.inl rfl) (pe_lstW (pa_cons (pe_call G_lspoiled (hr.mono (by decide)) (by rfl) T.g_lspoiled T.F_lspoiled.kp T.b_lspoiled .nil pass0 (pa_cons (pv 3) (pa_cons (pe_call G_spoils (hr.mono (by decide)) (by rfl) T.g_spoils T.F_spoils.kp T.b_spoils .nil pass0 (pa_cons (pv 0) (pa_cons pe_int (pa_cons (pe_callB call_len_str (by rfl) T.z_len PySem.boot_len (pa_cons (pv 3) pa_nil)) pa_nil)))) pa_nil))) (pa_cons (pe_call G_lspoiled (hr.mono (by decide)) (by rfl) T.g_lspoiled T.F_lspoiled.kp T.b_lspoiled .nil pass0 (pa_cons (pv 3) (pa_cons (pe_call G_spoils (hr.mono (by decide)) (by rfl) T.g_spoils T.F_spoils.kp T.b_spoils .nil pass0 (pa_cons (pv 0) (pa_cons pe_int (pa_cons (pe_callB call_len_str (by rfl) T.z_len PySem.boot_len (pa_cons (pv 3) pa_nil)) pa_nil)))) pa_nil))) pa_nil))))
      (pss_cons (ps_set (i := 6) sc_things.nd rfl (Or.inl rfl) (pe_op op_catLW (pv 6) (pe_lstW (pa_cons (pe_slice sl_str (pv 3) po_none (po_some (pv 5))) (pa_cons (pe_slice sl_str (pv 3) (po_some (pv 5)) po_none) (pa_cons (pe_op op_add_str (pe_op op_add_str (pe_slice sl_str (pv 3) po_none (po_some (pv 5))) (pe_ix ix_str (pv 4) (pe_call G_draw (hr.mono (by decide)) (by rfl) T.g_draw T.F_draw.kp T.b_draw .nil pass0 (pa_cons (pv 0) (pa_cons pe_int pa_nil))) (fun _ _ => rfl))) (pe_slice sl_str (pv 3) (po_some (pv 5)) po_none)) pa_nil))))))
      (pss_cons (ps_set (i := 6) sc_things.nd rfl (Or.inl rfl) (pe_op op_catLW (pv 6) (pe_lstW (pa_cons (pe_join pe_str (pe_lc (own := [("_law_turn", 7)]) (g := gName 7) (tt := tYes) (by rfl) sc_things.nd (pi_range1 (by rfl) T.z_range (pa_cons (pe_call G_draw (hr.mono (by decide)) (by rfl) T.g_draw T.F_draw.kp T.b_draw .nil pass0 (pa_cons (pv 0) (pa_cons pe_int pa_nil))) pa_nil)) (blkOk_by (own := [("_law_turn", 7)]) (N := N_things) (sc := defScope s_things) (by decide +kernel)) (fun _ _ _ _ _ => pg_name (i := 7) sc_things.nd rfl (Or.inl rfl)) (fun _ _ _ _ _ => pts_nil) (fun s5 H5 C5 cl5 fp5 => (pe_ix ix_str pe_str (pe_call G_draw (hr.mono (by decide)) (by rfl) T.g_draw T.F_draw.kp T.b_draw .nil pass0 (pa_cons (pv 0) (pa_cons pe_int pa_nil))) (fun _ _ => rfl))))) (pa_cons (pe_call G_odd (hr.mono (by decide)) (by rfl) T.g_odd T.F_odd.kp T.b_odd .nil pass0 (pa_cons (pv 0) pa_nil)) pa_nil)))))
      (pss_one (ps_ret (pe_op op_catLW (pv 6) (pe_lstW (pa_cons (pe_call G_split_run (hr.mono (by decide)) (by rfl) T.g_split_run T.F_split_run.kp T.b_split_run .nil pass0 (pa_cons (pv 1) (pa_cons (pv 2) pa_nil))) (pa_cons (pe_lstW (pa_cons (pv 3) pa_nil)) (pa_cons (pe_slice sl_list (pe_callTy (call_list_strW rfl) (by rfl) T.z_list (by decide +kernel) (pa_cons (pv 3) pa_nil)) po_none (po_some pe_int)) (pa_cons (pe_tupW (pa_cons (pv 3) pa_nil)) (pa_cons (pe_call G_odd (hr.mono (by decide)) (by rfl) T.g_odd T.F_odd.kp T.b_odd .nil pass0 (pa_cons (pv 0) pa_nil)) pa_nil))))))))))))))), ?_⟩
    have lP := plainB_len rl l1
    have bP := plainB_bts l
    have zl : (sOf (plainB l)).length ≤ 1560 := by
      rw [sOf_len]
      exact lP
    have hl : (sOf (plainB l)).length ≤ sizeLine := sz (by omega)
    refine ⟨_, rfl, _, rfl, tp, l, rfl, hTA, rl, l1, ?_⟩
    refine ⟨rfl, fun sg lsg => ?_⟩
    have hsg : sg.length ≤ sizeLine := sz (by omega)
    refine ⟨_, rfl, _, rfl, _, rfl, hl, _, _, rfl, rfl, b, _, rfl, hb, by omega, by omega, fun pl H1 a0 a1 bx1 => ?_⟩
    -- two spoilt ones
    refine ⟨_, rfl, _, rfl, _, rfl, _, rfl, hl, b, _, _, rfl, bx1.1, by decide, by decide, by omega, by omega, fun p1 ws1 sp1 H2 np1 bx2 hp1 hs1 ls1 gs1 => ⟨plainB l, p1, ws1, sp1, rfl, SqL.of hp1, hs1, bP, (fun s hs => (gs1 s hs).2), by omega, by omega, ?_⟩⟩
    refine ⟨_, rfl, _, rfl, _, rfl, _, rfl, hl, b, _, _, rfl, bx2.1, by decide, by decide, by omega, by omega, fun p2 ws2 sp2 H3 np2 bx3 hp2 hs2 ls2 gs2 => ⟨plainB l, p2, ws2, sp2, rfl, SqL.of hp2, hs2, bP, (fun s hs => (gs2 s hs).2), by omega, by omega, (by show 2 ≤ 100000; decide), fun f1 H4 nf1 s4 hf1 => ?_⟩⟩
    have k1 := spoil_len sp1 (plainB l)
    have k2 := spoil_len sp2 (plainB l)
    have bx4 : Bx b H H4 := ((bx1.trans bx2).trans bx3).same s4
    have nf1b : f1 ≠ b := ((bx1.trans bx2).trans bx3).1.ne nf1
    -- cut, with a sign
    have c1 := cut_le (sOf (plainB l)) none (some pl) 1560 zl
    have c2 := cut_le (sOf (plainB l)) (some pl) none 1560 zl
    refine ⟨_, rfl, _, rfl, _, rfl, _, rfl, _, rfl, hl, _, rfl, _, rfl, _, rfl, _, rfl, hl, _, rfl, _, rfl, _, rfl, _, rfl, hl, _, rfl, _, rfl, b, 94, rfl, bx4.1, by decide, by decide, fun j H5 j0 j1 bx5 => ?_⟩
    obtain ⟨cc, hcc⟩ := pick_sign (z := sg) j0 (by rw [lsg]; exact j1)
    refine ⟨_, _, cc, rfl, rfl, hsg, hcc, _, _, rfl, rfl, ?_, _, rfl, _, rfl, _, rfl, _, rfl, hl, _, _, rfl, rfl, ?_, (by show 3 ≤ 100000; decide), fun p3 H6 n3 s6 e3 => ⟨_, _, _, _, rfl, rfl, s6 _ _ (bx5.2 _ _ nf1b hf1), e3, (by show 2 + 3 ≤ 100000; decide), fun f2 H7 nf2 s7 hf2 => ?_⟩⟩
    · rw [one_len]
      exact sz (by omega)
    · rw [app_len, one_len]
      exact sz (by omega)
    have bx7 : Bx b H H7 := ((bx4.trans bx5).same s6).same s7
    have nf2b : f2 ≠ b := ((bx4.trans bx5).same s6).1.ne nf2
    -- any bits, an odd thing
    refine ⟨_, rfl, ⟨_, rfl⟩, _, rfl, b, 80, rfl, bx7.1, by decide, by decide, fun kk H8 kk0 kk1 bx8 => ?_⟩
    obtain ⟨kk, rfl⟩ := Int.eq_ofNat_of_zero_le kk0
    refine ⟨_, rfl, by omega, by omega, fun D hD => ?_⟩
    rw [Int.toNat_natCast]
    have nD : D ≠ b := bx8.1.ne hD
    have fD : H7 D = none := bx8.free hD
    refine lc_range (lo := 0) (n := kk) (fun i H' => ∃ m : List Nat, H' D = some (.lst (cells m)) ∧ m.length = i ∧ Bx b H7 H') ⟨[], upd_same, rfl, bx8.same (same_new hD)⟩ ?_ ?_
    · rintro i I1 hi ⟨m, h3, lm, bx9⟩
      refine ⟨rfl, _, rfl, b, 2, rfl, bx9.1, by decide, by decide, fun j I2 j0 j1 bx10 => ?_⟩
      refine ⟨_, _, _, rfl, rfl, two_len', bit_at j0 j1, _, bx10.2 _ _ nD h3, ?_, m ++ [bitN j], ?_, ?_, (bx9.trans bx10).mut fD nD⟩
      · rw [cells_len]
        exact szl (by omega)
      · rw [upd_same, ← cells_app]
        rfl
      · rw [List.length_append, lm]
        rfl
    rintro H9 ⟨m, h3, lm, bx9⟩
    refine ⟨_, _, m.map fun c => sOf [c], rfl, rfl, .inl (SqL.of (by rw [← cells_strs]; exact h3)), join_size (by omega), ?_⟩
    rw [join_cells]
    refine ⟨_, rfl, b, rfl, bx9.1, fun ov H10 hov zov bx10 => ⟨(by show 2 ≤ 100000; decide), fun p4 H11 n4 s11 e4 => ?_⟩⟩
    have t7 : Bx b H7 H11 := (bx9.trans bx10).same s11
    refine ⟨_, _, _, _, rfl, rfl, t7.2 _ _ nf2b hf2, e4, (by show 2 + 3 + 2 ≤ 100000; decide), fun f3 H12 nf3 s12 hf3 => ?_⟩
    have bx12 : Bx b H H12 := (bx7.trans t7).same s12
    have nf3b : f3 ≠ b := (bx7.trans t7).1.ne nf3
    -- the rest
    refine ⟨_, rfl, _, rfl, _, rfl, tp, l, rfl, kTA _ bx12, rl, l0, l1, fun r lr => ?_⟩
    refine ⟨_, rfl, (by show 1 ≤ 100000; decide), fun p5 H13 n5 s13 e5 => ?_⟩
    refine ⟨_, rfl, sOf (plainB l), rfl, by omega, fun p6 H14 n6 s14 e6 => ?_⟩
    refine ⟨_, rfl, _, _, rfl, SqL.of e6, fun p7 hp7 => ?_⟩
    refine ⟨_, rfl, (by show 1 ≤ 100000; decide), fun p8 H15 n8 s15 e8 => ?_⟩
    have s12to15 : Same H12 H15 := ((s13.trans s14).trans (same_new hp7)).trans s15
    have bx15 := bx12.same s12to15
    refine ⟨_, rfl, b, rfl, bx15.1, fun ow H16 how zow bx16 => ⟨(by show 5 ≤ 100000; decide), fun p9 H17 n9 s17 e9 => ?_⟩⟩
    have n5b : p5 ≠ b := bx12.1.ne n5
    have n7b : p7 ≠ b := ((bx12.same s13).same s14).1.ne hp7
    have t12 : Bx b H12 H17 := (((Bx.refl bx12.1).same s12to15).trans bx16).same s17
    refine ⟨_, _, _, _, rfl, rfl, t12.2 _ _ nf3b hf3, e9, (by show 2 + 3 + 2 + 5 ≤ 100000; decide), fun f4 H18 nf4 s18 hf4 => ?_⟩
    have bx17 := bx12.trans t12
    refine q f4 _ H18 (bx17.free nf4) hf4 (by show 2 + 3 + 2 + 5 ≤ 1000; decide) ?_ (bx17.same s18)
    have to18 : ∀ {v : V}, (∀ z, v = .str z → z.length ≤ 8) → Tg b H10 v → Thg H18 v := fun k h => tg_thg (h.bx bx10.1 (((((Bx.refl bx10.1).same s11).same s12).trans t12).same s18)) k
    have e5' : H18 p5 = some (.lst [.str (sOf (plainB l))]) := s18 _ _ (s17 _ _ (bx16.2 _ _ n5b (s15 _ _ (same_new hp7 _ _ (s14 _ _ e5)))))
    have e7' : H18 p7 = some (.lst (cutV (cells (sOf (plainB l)).cps.toList) none (some 200))) := s18 _ _ (s17 _ _ (bx16.2 _ _ n7b (s15 _ _ upd_same)))
    have n8b : p8 ≠ b := bx15.1.tup e8
    have e8' : H18 p8 = some (.tup [.str (sOf (plainB l))]) := s18 _ _ (s17 _ _ (bx16.2 _ _ n8b e8))
    refine th_app (th_app (th_app (th_cons (.inr ⟨_, rfl, by omega⟩) (th_cons (.inr ⟨_, rfl, by omega⟩) th_nil)) (th_cons (thg_str (by omega)) (th_cons (thg_str (by omega)) (th_cons (thg_str (by rw [app_len, app_len, one_len]; omega)) th_nil)))) (th_cons (.inr ⟨m, rfl, by omega⟩) (th_cons (to18 zov hov) th_nil))) (th_cons (.inr ⟨r, rfl, by omega⟩) (th_cons (.inl (.inr (.inr (.inr (.inl ⟨p5, _, rfl, e5'⟩))))) (th_cons (.inl (.inr (.inr (.inr (.inl ⟨p7, _, rfl, e7'⟩))))) (th_cons (.inl (.inr (.inr (.inr (.inr ⟨p8, _, rfl, e8'⟩))))) (th_cons (tg_thg (how.bx bx16.1 (((Bx.refl bx16.1).same s17).same s18)) zow) th_nil)))))
--SPLIT
theorem extN_mut {H H' : Hp} {p : Addr} {o : HO} (e : LamX.ExtN H H') (h : H p = none) : LamX.ExtN H (upd H' p o) := fun b x hb nt => by
  rw [upd_ne (ne_of_none hb h)]
  exact e b x hb nt
def spLaw (K : PySem.W.Frag) (p : Addr) : Sp := fun vs H Q _ => ∃ (a : Addr) (ns : List Int), vs = [.ref a] ∧ SqL K H a (ns.map V.int) ∧ ns.length ≤ 63 ∧ H p = some (.tbl #[]) ∧ ∀ H', Q (.bl true) H'
theorem ok_law {A : Ad} (T : Txt w K mg base A) : FnOk P w K mg base CX0 8 A.a_law A.d_law P_law (spLaw K A.p_making_order) := by
  have G_tables := ok_tables (P := P) (w := w) (base := base) T
  have G_bag := ok_bag (P := P) (w := w) (base := base) T
  have G_row := ok_row (P := P) (w := w) (base := base) T
  have G_draw := ok_draw (P := P) (w := w) (base := base) T
  have G_good := ok_good (P := P) (w := w) (base := base) T
  have G_things := ok_things (P := P) (w := w) (base := base) T
  refine T.F_law.ok sc_law (fun vs H Q E h => ?_) (fun cdv Ar outer s H vs Q E hr h => ?_)
  · obtain ⟨a, ns, rfl, _⟩ := h
    rfl
  · obtain ⟨a, ns, rfl, hS, ln, hP, q⟩ := h
    refine ⟨_, (pss_cons (ps_set (i := 1) sc_law.nd rfl (by first | exact Or.inl rfl | exact Or.inr rfl) (pe_call0 G_tables (hr.mono (by decide)) (by rfl) T.g_tables T.F_tables.kp T.b_tables .nil pass0))
      (pss_cons (ps_for PassesOwn.never rfl (pi_range1 (by rfl) T.z_range (pa_cons (pe_callB (call_max2 rfl) (by rfl) T.z_max (by decide +kernel) (pa_cons pe_int (pa_cons (pe_callB (call_min2 rfl) (by rfl) T.z_min (by decide +kernel) (pa_cons pe_int (pa_cons (pe_callB (r := fun xs H Q => ∃ p ys, xs = [.ref p] ∧ (SqL K H p ys ∨ SqT K H p ys) ∧ Q (.int ys.length) H) call_len_seq (by rfl) T.z_len PySem.boot_len (pa_cons (pv 0) pa_nil)) pa_nil))) pa_nil))) pa_nil)) (pg_name (i := 2) sc_law.nd rfl (Or.inl rfl))
      (pss_cons (ps_set (i := 3) sc_law.nd rfl (Or.inl rfl) (pe_call G_bag (hr.mono (by decide)) (by rfl) T.g_bag T.F_bag.kp T.b_bag .nil pass0 (pa_cons (pv 0) (pa_cons (pv 2) pa_nil))))
      (pss_cons (ps_set (i := 4) sc_law.nd rfl (by first | exact Or.inl rfl | exact Or.inr rfl) (pe_ix (r := rIxL K) ix_list (pe_lstW (pa_cons pe_int (pa_cons pe_int (pa_cons (pe_op op_add pe_int (pe_call G_draw (hr.mono (by decide)) (by rfl) T.g_draw T.F_draw.kp T.b_draw .nil pass0 (pa_cons (pv 3) (pa_cons pe_int pa_nil)))) (pa_cons (pe_op op_add pe_int (pe_call G_draw (hr.mono (by decide)) (by rfl) T.g_draw T.F_draw.kp T.b_draw .nil pass0 (pa_cons (pv 3) (pa_cons pe_int pa_nil)))) pa_nil))))) (pe_call G_draw (hr.mono (by decide)) (by rfl) T.g_draw T.F_draw.kp T.b_draw .nil pass0 (pa_cons (pv 3) (pa_cons pe_int pa_nil))) (fun _ _ => rfl)))
      (pss_cons (ps_set (i := 5) sc_law.nd rfl (Or.inl rfl) (pe_call G_row (hr.mono (by decide)) (by rfl) T.g_row T.F_row.kp T.b_row .nil pass0 (pa_cons (pv 3) (pa_cons (pv 4) (pa_cons (pe_op op_mul_str pe_str (pv 4)) pa_nil)))))
      (pss_one (ps_for PassesOwn.never rfl (pi_range1 (by rfl) T.z_range (pa_cons pe_int pa_nil)) (pg_name (i := 6) sc_law.nd rfl (Or.inl rfl))
      (pss_one (ps_if (pt_not (pt_val (pe_callB (cr_all rfl) (by rfl) T.z_all (by decide +kernel) (pa_cons (pe_lc (own := [("_law_thing", 7)]) (g := gName 7) (tt := tYes) (by rfl) sc_law.nd (pi_list (pe_call G_things (hr.mono (by decide)) (by rfl) T.g_things T.F_things.kp T.b_things .nil pass0 (pa_cons (pv 3) (pa_cons (pv 1) (pa_cons (pv 5) pa_nil))))) (blkOk_by (own := [("_law_thing", 7)]) (N := N_law) (sc := defScope s_law) (by decide +kernel)) (fun _ _ _ _ _ => pg_name (i := 7) sc_law.nd rfl (Or.inl rfl)) (fun _ _ _ _ _ => pts_nil) (fun s5 H5 C5 cl5 fp5 => (pe_call G_good (hr.mono (by decide)) (by rfl) T.g_good T.F_good.kp T.b_good .nil pass0 (pa_cons (pv 1) (pa_cons (pv 4) (pa_cons (pv 7) pa_nil)))))) pa_nil))))
      (pss_one (ps_ret pe_bl)) pss_nil))))))))
      (pss_one (ps_ret pe_bl)))), ?_⟩
    refine ⟨rfl, fun tp t0 t1 t2 H1 s1 etp et0 et1 et2 => ?_⟩
    have hTA : TabsAt H1 tp := ⟨t0, t1, t2, etp, et0, et1, et2⟩
    have hS1 := s1.seq hS
    have T1 : LamX.Tabs (TT A.p_making_order) H1 := fun z hz => by
      rw [List.mem_singleton.mp hz]
      exact LamX.TabS.nil (s1 _ _ hP)
    refine ⟨_, rfl, _, _, rfl, .inl hS1, _, _, rfl, _, _, rfl, _, rfl, ?_, ?_, for_range (fun i σ H' => ∃ y2 y3 y4 y5 y6 y7, σ = [some (.ref a), some (.ref tp), y2, y3, y4, y5, y6, y7] ∧ LamX.ExtN H1 H' ∧ LamX.Tabs (TT A.p_making_order) H') ⟨none, none, none, none, none, none, rfl, LamX.ExtN.refl _, T1⟩ ?_ ?_⟩
    · rw [List.length_map]
      split <;> split <;> omega
    · rw [List.length_map]
      split <;> split <;> omega
    · rintro i σ H2 hi ⟨y2, y3, y4, y5, y6, y7, rfl, e2, T2⟩
      have hi8 : i < 8 := by
        rw [List.length_map] at hi
        revert hi
        split <;> split <;> omega
      refine ⟨_, rfl, _, rfl, a, ns, _, rfl, extN_seq e2 hS1, by omega, by omega, fun b g s hb g0 s0 s1 => ?_⟩
      have B0 := BxN.new hb g0 s0 s1 T2
      refine ⟨_, rfl, b, 57, rfl, B0.1, by decide, by decide, fun d1 H3 a0 a1 bx1 => ⟨_, _, rfl, rfl, _, rfl, b, 57, rfl, bx1.1, by decide, by decide, fun d2 H4 c0 c1 bx2 => ⟨_, _, rfl, rfl, (by show 4 ≤ 100000; decide), fun p H5 np0 s5 hp => ⟨_, rfl, b, 4, rfl, (bx2.same s5).1, by decide, by decide, fun j H6 j0 j1 bx3 => ?_⟩⟩⟩⟩
      have np : p ≠ b := BagAt.ne bx2.1 np0
      obtain ⟨v, hv, n, rfl, n0, n1⟩ := pick4 a0 a1 c0 c1 j0 j1
      refine ⟨_, _, _, _, rfl, rfl, SqL.of (bx3.2 _ _ np hp), hv, ?_⟩
      have B1 : BxN A.p_making_order b H2 H6 := (((B0.bx bx1).bx bx2).same s5).bx bx3
      refine ⟨_, rfl, _, rfl, _, rfl, 46, _, rfl, rfl, ⟨by omega, by omega⟩, ?_⟩
      rw [Int.toNat_natCast]
      refine ⟨b, n, List.replicate n 46, _, rfl, rfl, B1.1, by omega, by omega, List.length_replicate, Row.rep (.inl rfl), fun l H7 ll rl bx7 => ?_⟩
      have B2 := B1.bx bx7
      have ntb : ∀ t : Addr, (∃ xs, H1 t = some (.lst xs)) → t ≠ b := fun t ⟨xs, h⟩ => ne_of_none (e2 _ _ h (fun ps z => by cases z)) hb
      have kTA : ∀ H', BxN A.p_making_order b H2 H' → TabsAt H' tp := fun H' B => hTA.ext (e2.trans (B.back hb))
      refine ⟨_, rfl, by decide, by decide, for_range (lo := 0) (n := 2) (fun t σ H' => ∃ y6 y7 : Option V, σ = [some (.ref a), some (.ref tp), some (.int (0 + (i : Int))), some (.ref b), some (.int (n : Int)), some (.str (sOf l)), y6, y7] ∧ BxN A.p_making_order b H2 H') ⟨y6, y7, rfl, B2⟩ ?_ ?_⟩
      · rintro t σ H8 ht ⟨y6, y7, rfl, B3⟩
        refine ⟨_, rfl, _, rfl, _, rfl, b, tp, l, rfl, B3.1, ntb tp ⟨_, etp⟩, kTA _ B3, (fun H' bx => kTA _ (B3.bx bx)), rl, by omega, by omega, fun lq xs H9 nlq elq lx tx bx9 => ?_⟩
        have B4 := B3.bx bx9
        refine ⟨lq, rfl, ⟨_, SqL.of elq⟩, fun D hD => lc_list (K := K) (a := lq) (xs := xs) (fun j H' => LamX.ExtN H9 H' ∧ LamX.Tabs (TT A.p_making_order) H' ∧ H' D = some (.lst ((List.replicate j true).map V.bl))) ⟨extN_of (same_new hD), tabs_same B4.2.1 (same_new hD), upd_same⟩ (fun j H' _ ⟨e, _⟩ => SqL.of (e _ _ elq (fun ps z => by cases z))) ?_ ?_⟩
        · rintro j x I1 hx ⟨ex, Tx, hDx⟩
          have hj : j < xs.length := (List.getElem?_eq_some_iff.mp hx).1
          refine ⟨rfl, _, rfl, _, rfl, _, rfl, tp, n, x, _, rfl, rfl, n1, (kTA _ B4).ext ex, (tx x (List.mem_of_getElem? hx)).ext ex, Tx, fun I2 e2 T2 => ?_⟩
          have hD2 : I2 D = some (.lst ((List.replicate j true).map V.bl)) := e2 _ _ hDx (fun ps z => by cases z)
          refine ⟨_, hD2, ?_, extN_mut (ex.trans e2) hD, tabs_but (q := D) T2 hD2 (fun c o nc z => by rw [upd_ne nc]; exact z), ?_⟩
          · rw [List.length_map, List.length_replicate]
            exact szl (by omega)
          · rw [upd_same, rep_more]
        · rintro I1 ⟨ex, Tx, hDx⟩
          refine ⟨_, List.replicate xs.length true, rfl, SqL.of hDx, ?_⟩
          rw [rep_all]
          refine ⟨_, rfl, ?_⟩
          exact ⟨_, _, rfl, B4.ext ex Tx⟩
      · rintro σ H8 ⟨y6, y7, rfl, B3⟩
        exact ⟨_, _, _, _, _, _, rfl, e2.trans (B3.back hb), B3.2.1⟩
    · rintro σ H2 ⟨y2, y3, y4, y5, y6, y7, rfl, e2, T2⟩
      exact q _
end
--SPLIT
theorem all_mk {l : PySem.W.OpenLaw} {w : World} {K : PySem.W.Frag} {h : Heap} {mg : Str → Option Value} {fa : Addr} (X : K.In h) (G : h.Ns mainGlobals mg) (hfa : mg "law" = some (.ref fa))
    {f0 f1 f2 f3 f4 f5 f6 f7 f8 f9 f10 f11 f12 f13 f14 f15 f16 f17 f18 f19 f20 f21 f22 f23 f24 f25 f26 f27 f28 f29 f30 f31 : Addr}
    {x_NoSaying : Addr}
    {x_NoCall : Addr}
    {x_NoEnds : Addr}
    {x_NoName : Addr}
    {x_NoPiece : Addr}
    {x_NoFrame : Addr}
    {x_NoTelling : Addr}
    {x_NoWords : Addr}
    {x_NoPage : Addr}
    {x_FarError : Addr}
    {od0 an0 od1 an1 od2 an2 od3 an3 od4 an4 od5 an5 od6 an6 od7 an7 od8 an8 od9 an9 od10 an10 od11 an11 od12 an12 od13 an13 od14 an14 od15 an15 od16 an16 od17 an17 od18 an18 od19 an19 od20 an20 od21 an21 od22 an22 od23 an23 od24 an24 od25 an25 od26 an26 od27 an27 od28 an28 od29 an29 od30 an30 od31 an31 : Option Addr}
    {sl0 sl1 sl2 sl3 sl4 sl5 sl6 sl7 sl8 sl9 sl10 sl11 sl12 sl13 sl14 sl15 sl16 sl17 sl18 sl19 sl20 sl21 sl22 sl23 sl24 sl25 sl26 sl27 sl28 sl29 sl30 sl31 : Array (Option Value)}
    {oc0 kV0 dc0 pm0 ct0 cd0 oc1 kV1 dc1 pm1 ct1 cd1 oc2 kV2 dc2 pm2 ct2 cd2 oc3 kV3 dc3 pm3 ct3 oc4 kV4 dc4 pm4 ct4 cd4 oc5 kV5 dc5 pm5 ct5 cd5 oc6 kV6 dc6 pm6 ct6 cd6 oc7 kV7 dc7 pm7 ct7 cd7 oc8 kV8 dc8 pm8 ct8 cd8 oc9 kV9 dc9 pm9 ct9 cd9 oc10 kV10 dc10 pm10 ct10 cd10 oc11 kV11 dc11 pm11 ct11 cd11 oc12 kV12 dc12 pm12 ct12 cd12 oc13 kV13 dc13 pm13 ct13 cd13 oc14 kV14 dc14 pm14 ct14 cd14 oc15 kV15 dc15 pm15 ct15 cd15 oc16 kV16 dc16 pm16 ct16 cd16 oc17 kV17 dc17 pm17 ct17 cd17 oc18 kV18 dc18 pm18 ct18 cd18 oc19 kV19 dc19 pm19 ct19 cd19 oc20 kV20 dc20 pm20 ct20 cd20 oc21 kV21 dc21 pm21 ct21 cd21 oc22 kV22 dc22 pm22 ct22 cd22 oc23 kV23 dc23 pm23 ct23 cd23 oc24 kV24 dc24 pm24 ct24 cd24 oc25 kV25 dc25 pm25 ct25 cd25 oc26 kV26 dc26 pm26 ct26 cd26 oc27 kV27 dc27 pm27 ct27 cd27 oc28 kV28 dc28 pm28 ct28 cd28 oc29 kV29 dc29 pm29 ct29 cd29 oc30 kV30 dc30 pm30 ct30 cd30 oc31 kV31 dc31 pm31 ct31 cd31 : Value}
    {t_DARK : Tok}
    {t_ENDS : Tok}
    {t_LENGTHS : Addr}
    {t_LIGHT : Tok}
    {t_MAKERS : Tok}
    {k_making_order p_making_order : Addr}
    {es_LENGTHS : Array DictEntry} {en_LENGTHS : Nat}
    {u_LENGTHS_0 : Addr} {dd_LENGTHS_0 : Option Addr} {us_LENGTHS_0 : List Value} {un_LENGTHS_0 : Nat} {ul_LENGTHS_0 : Array (Option Value)}
    {u_LENGTHS_1 : Addr} {dd_LENGTHS_1 : Option Addr} {us_LENGTHS_1 : List Value} {un_LENGTHS_1 : Nat} {ul_LENGTHS_1 : Array (Option Value)}
    (a0 : PySem.W.nsIn K mainGlobals "is_bits" = some (some (.ref f0))) (l0 : K.lookup f0 = some ⟨oc0, od0, .func (PySem.W.fnOf "is_bits" "is_bits" (defArgs s_is_bits) (defBody s_is_bits) (defScope s_is_bits) .none kV0 dc0 pm0 an0 cd0 ct0), sl0⟩) (c0 : PySem.W.codeIn K cd0 "is_bits" = true) (k0 : PySem.W.keepIn K (.ref f0) = true)
    (a1 : PySem.W.nsIn K mainGlobals "other_cell" = some (some (.ref f1))) (l1 : K.lookup f1 = some ⟨oc1, od1, .func (PySem.W.fnOf "other_cell" "other_cell" (defArgs s_other_cell) (defBody s_other_cell) (defScope s_other_cell) .none kV1 dc1 pm1 an1 cd1 ct1), sl1⟩) (c1 : PySem.W.codeIn K cd1 "other_cell" = true) (k1 : PySem.W.keepIn K (.ref f1) = true)
    (a2 : PySem.W.nsIn K mainGlobals "words_by" = some (some (.ref f2))) (l2 : K.lookup f2 = some ⟨oc2, od2, .func (PySem.W.fnOf "words_by" "words_by" (defArgs s_words_by) (defBody s_words_by) (defScope s_words_by) .none kV2 dc2 pm2 an2 cd2 ct2), sl2⟩) (c2 : PySem.W.codeIn K cd2 "words_by" = true) (k2 : PySem.W.keepIn K (.ref f2) = true)
    (a3 : PySem.W.nsIn K mainGlobals "making_order" = some (some (.ref f3))) (l3 : K.lookup f3 = some ⟨oc3, od3, .func (PySem.W.fnOf "making_order" "making_order" (defArgs s_making_order) (defBody s_making_order) (defScope s_making_order) .none kV3 dc3 pm3 an3 (.ref k_making_order) ct3), sl3⟩) (c3 : PySem.W.codeIn K (.ref k_making_order) "making_order" = true) (k3 : PySem.W.keepIn K (.ref f3) = true)
    (hT_making_order : h.get? p_making_order = some (PySem.W.tabObj #[])) (hd_making_order : PySem.W.codeHdIn K k_making_order p_making_order = true) (nT_making_order : K.lookup p_making_order = none)
    (a4 : PySem.W.nsIn K mainGlobals "one_less" = some (some (.ref f4))) (l4 : K.lookup f4 = some ⟨oc4, od4, .func (PySem.W.fnOf "one_less" "one_less" (defArgs s_one_less) (defBody s_one_less) (defScope s_one_less) .none kV4 dc4 pm4 an4 cd4 ct4), sl4⟩) (c4 : PySem.W.codeIn K cd4 "one_less" = true) (k4 : PySem.W.keepIn K (.ref f4) = true)
    (a5 : PySem.W.nsIn K mainGlobals "colour_words" = some (some (.ref f5))) (l5 : K.lookup f5 = some ⟨oc5, od5, .func (PySem.W.fnOf "colour_words" "colour_words" (defArgs s_colour_words) (defBody s_colour_words) (defScope s_colour_words) .none kV5 dc5 pm5 an5 cd5 ct5), sl5⟩) (c5 : PySem.W.codeIn K cd5 "colour_words" = true) (k5 : PySem.W.keepIn K (.ref f5) = true)
    (a6 : PySem.W.nsIn K mainGlobals "run_by" = some (some (.ref f6))) (l6 : K.lookup f6 = some ⟨oc6, od6, .func (PySem.W.fnOf "run_by" "run_by" (defArgs s_run_by) (defBody s_run_by) (defScope s_run_by) .none kV6 dc6 pm6 an6 cd6 ct6), sl6⟩) (c6 : PySem.W.codeIn K cd6 "run_by" = true) (k6 : PySem.W.keepIn K (.ref f6) = true)
    (a7 : PySem.W.nsIn K mainGlobals "run_tables" = some (some (.ref f7))) (l7 : K.lookup f7 = some ⟨oc7, od7, .func (PySem.W.fnOf "run_tables" "run_tables" (defArgs s_run_tables) (defBody s_run_tables) (defScope s_run_tables) .none kV7 dc7 pm7 an7 cd7 ct7), sl7⟩) (c7 : PySem.W.codeIn K cd7 "run_tables" = true) (k7 : PySem.W.keepIn K (.ref f7) = true)
    (a8 : PySem.W.nsIn K mainGlobals "run_table" = some (some (.ref f8))) (l8 : K.lookup f8 = some ⟨oc8, od8, .func (PySem.W.fnOf "run_table" "run_table" (defArgs s_run_table) (defBody s_run_table) (defScope s_run_table) .none kV8 dc8 pm8 an8 cd8 ct8), sl8⟩) (c8 : PySem.W.codeIn K cd8 "run_table" = true) (k8 : PySem.W.keepIn K (.ref f8) = true)
    (a9 : PySem.W.nsIn K mainGlobals "read_by" = some (some (.ref f9))) (l9 : K.lookup f9 = some ⟨oc9, od9, .func (PySem.W.fnOf "read_by" "read_by" (defArgs s_read_by) (defBody s_read_by) (defScope s_read_by) .none kV9 dc9 pm9 an9 cd9 ct9), sl9⟩) (c9 : PySem.W.codeIn K cd9 "read_by" = true) (k9 : PySem.W.keepIn K (.ref f9) = true)
    (a10 : PySem.W.nsIn K mainGlobals "read_plain" = some (some (.ref f10))) (l10 : K.lookup f10 = some ⟨oc10, od10, .func (PySem.W.fnOf "read_plain" "read_plain" (defArgs s_read_plain) (defBody s_read_plain) (defScope s_read_plain) .none kV10 dc10 pm10 an10 cd10 ct10), sl10⟩) (c10 : PySem.W.codeIn K cd10 "read_plain" = true) (k10 : PySem.W.keepIn K (.ref f10) = true)
    (a11 : PySem.W.nsIn K mainGlobals "_law_bag" = some (some (.ref f11))) (l11 : K.lookup f11 = some ⟨oc11, od11, .func (PySem.W.fnOf "_law_bag" "_law_bag" (defArgs s_bag) (defBody s_bag) (defScope s_bag) .none kV11 dc11 pm11 an11 cd11 ct11), sl11⟩) (c11 : PySem.W.codeIn K cd11 "_law_bag" = true) (k11 : PySem.W.keepIn K (.ref f11) = true)
    (a12 : PySem.W.nsIn K mainGlobals "_law_draw" = some (some (.ref f12))) (l12 : K.lookup f12 = some ⟨oc12, od12, .func (PySem.W.fnOf "_law_draw" "_law_draw" (defArgs s_draw) (defBody s_draw) (defScope s_draw) .none kV12 dc12 pm12 an12 cd12 ct12), sl12⟩) (c12 : PySem.W.codeIn K cd12 "_law_draw" = true) (k12 : PySem.W.keepIn K (.ref f12) = true)
    (a13 : PySem.W.nsIn K mainGlobals "_law_row" = some (some (.ref f13))) (l13 : K.lookup f13 = some ⟨oc13, od13, .func (PySem.W.fnOf "_law_row" "_law_row" (defArgs s_row) (defBody s_row) (defScope s_row) .none kV13 dc13 pm13 an13 cd13 ct13), sl13⟩) (c13 : PySem.W.codeIn K cd13 "_law_row" = true) (k13 : PySem.W.keepIn K (.ref f13) = true)
    (a14 : PySem.W.nsIn K mainGlobals "_law_whole" = some (some (.ref f14))) (l14 : K.lookup f14 = some ⟨oc14, od14, .func (PySem.W.fnOf "_law_whole" "_law_whole" (defArgs s_whole) (defBody s_whole) (defScope s_whole) .none kV14 dc14 pm14 an14 cd14 ct14), sl14⟩) (c14 : PySem.W.codeIn K cd14 "_law_whole" = true) (k14 : PySem.W.keepIn K (.ref f14) = true)
    (a15 : PySem.W.nsIn K mainGlobals "_law_less" = some (some (.ref f15))) (l15 : K.lookup f15 = some ⟨oc15, od15, .func (PySem.W.fnOf "_law_less" "_law_less" (defArgs s_less) (defBody s_less) (defScope s_less) .none kV15 dc15 pm15 an15 cd15 ct15), sl15⟩) (c15 : PySem.W.codeIn K cd15 "_law_less" = true) (k15 : PySem.W.keepIn K (.ref f15) = true)
    (a16 : PySem.W.nsIn K mainGlobals "_law_words" = some (some (.ref f16))) (l16 : K.lookup f16 = some ⟨oc16, od16, .func (PySem.W.fnOf "_law_words" "_law_words" (defArgs s_words) (defBody s_words) (defScope s_words) .none kV16 dc16 pm16 an16 cd16 ct16), sl16⟩) (c16 : PySem.W.codeIn K cd16 "_law_words" = true) (k16 : PySem.W.keepIn K (.ref f16) = true)
    (a17 : PySem.W.nsIn K mainGlobals "_law_tables" = some (some (.ref f17))) (l17 : K.lookup f17 = some ⟨oc17, od17, .func (PySem.W.fnOf "_law_tables" "_law_tables" (defArgs s_tables) (defBody s_tables) (defScope s_tables) .none kV17 dc17 pm17 an17 cd17 ct17), sl17⟩) (c17 : PySem.W.codeIn K cd17 "_law_tables" = true) (k17 : PySem.W.keepIn K (.ref f17) = true)
    (a18 : PySem.W.nsIn K mainGlobals "_law_run" = some (some (.ref f18))) (l18 : K.lookup f18 = some ⟨oc18, od18, .func (PySem.W.fnOf "_law_run" "_law_run" (defArgs s_run) (defBody s_run) (defScope s_run) .none kV18 dc18 pm18 an18 cd18 ct18), sl18⟩) (c18 : PySem.W.codeIn K cd18 "_law_run" = true) (k18 : PySem.W.keepIn K (.ref f18) = true)
    (a19 : PySem.W.nsIn K mainGlobals "_law_plain" = some (some (.ref f19))) (l19 : K.lookup f19 = some ⟨oc19, od19, .func (PySem.W.fnOf "_law_plain" "_law_plain" (defArgs s_plain) (defBody s_plain) (defScope s_plain) .none kV19 dc19 pm19 an19 cd19 ct19), sl19⟩) (c19 : PySem.W.codeIn K cd19 "_law_plain" = true) (k19 : PySem.W.keepIn K (.ref f19) = true)
    (a20 : PySem.W.nsIn K mainGlobals "_law_run_at" = some (some (.ref f20))) (l20 : K.lookup f20 = some ⟨oc20, od20, .func (PySem.W.fnOf "_law_run_at" "_law_run_at" (defArgs s_run_at) (defBody s_run_at) (defScope s_run_at) .none kV20 dc20 pm20 an20 cd20 ct20), sl20⟩) (c20 : PySem.W.codeIn K cd20 "_law_run_at" = true) (k20 : PySem.W.keepIn K (.ref f20) = true)
    (a21 : PySem.W.nsIn K mainGlobals "_law_read_plain" = some (some (.ref f21))) (l21 : K.lookup f21 = some ⟨oc21, od21, .func (PySem.W.fnOf "_law_read_plain" "_law_read_plain" (defArgs s_read_plain_l) (defBody s_read_plain_l) (defScope s_read_plain_l) .none kV21 dc21 pm21 an21 cd21 ct21), sl21⟩) (c21 : PySem.W.codeIn K cd21 "_law_read_plain" = true) (k21 : PySem.W.keepIn K (.ref f21) = true)
    (a22 : PySem.W.nsIn K mainGlobals "_law_spoils" = some (some (.ref f22))) (l22 : K.lookup f22 = some ⟨oc22, od22, .func (PySem.W.fnOf "_law_spoils" "_law_spoils" (defArgs s_spoils) (defBody s_spoils) (defScope s_spoils) .none kV22 dc22 pm22 an22 cd22 ct22), sl22⟩) (c22 : PySem.W.codeIn K cd22 "_law_spoils" = true) (k22 : PySem.W.keepIn K (.ref f22) = true)
    (a23 : PySem.W.nsIn K mainGlobals "_law_spoiled" = some (some (.ref f23))) (l23 : K.lookup f23 = some ⟨oc23, od23, .func (PySem.W.fnOf "_law_spoiled" "_law_spoiled" (defArgs s_lspoiled) (defBody s_lspoiled) (defScope s_lspoiled) .none kV23 dc23 pm23 an23 cd23 ct23), sl23⟩) (c23 : PySem.W.codeIn K cd23 "_law_spoiled" = true) (k23 : PySem.W.keepIn K (.ref f23) = true)
    (a24 : PySem.W.nsIn K mainGlobals "_law_signs" = some (some (.ref f24))) (l24 : K.lookup f24 = some ⟨oc24, od24, .func (PySem.W.fnOf "_law_signs" "_law_signs" (defArgs s_signs) (defBody s_signs) (defScope s_signs) .none kV24 dc24 pm24 an24 cd24 ct24), sl24⟩) (c24 : PySem.W.codeIn K cd24 "_law_signs" = true) (k24 : PySem.W.keepIn K (.ref f24) = true)
    (a25 : PySem.W.nsIn K mainGlobals "_law_odd" = some (some (.ref f25))) (l25 : K.lookup f25 = some ⟨oc25, od25, .func (PySem.W.fnOf "_law_odd" "_law_odd" (defArgs s_odd) (defBody s_odd) (defScope s_odd) .none kV25 dc25 pm25 an25 cd25 ct25), sl25⟩) (c25 : PySem.W.codeIn K cd25 "_law_odd" = true) (k25 : PySem.W.keepIn K (.ref f25) = true)
    (a26 : PySem.W.nsIn K mainGlobals "_law_only" = some (some (.ref f26))) (l26 : K.lookup f26 = some ⟨oc26, od26, .func (PySem.W.fnOf "_law_only" "_law_only" (defArgs s_only) (defBody s_only) (defScope s_only) .none kV26 dc26 pm26 an26 cd26 ct26), sl26⟩) (c26 : PySem.W.codeIn K cd26 "_law_only" = true) (k26 : PySem.W.keepIn K (.ref f26) = true)
    (a27 : PySem.W.nsIn K mainGlobals "_law_due" = some (some (.ref f27))) (l27 : K.lookup f27 = some ⟨oc27, od27, .func (PySem.W.fnOf "_law_due" "_law_due" (defArgs s_due) (defBody s_due) (defScope s_due) .none kV27 dc27 pm27 an27 cd27 ct27), sl27⟩) (c27 : PySem.W.codeIn K cd27 "_law_due" = true) (k27 : PySem.W.keepIn K (.ref f27) = true)
    (a28 : PySem.W.nsIn K mainGlobals "_law_good" = some (some (.ref f28))) (l28 : K.lookup f28 = some ⟨oc28, od28, .func (PySem.W.fnOf "_law_good" "_law_good" (defArgs s_good) (defBody s_good) (defScope s_good) .none kV28 dc28 pm28 an28 cd28 ct28), sl28⟩) (c28 : PySem.W.codeIn K cd28 "_law_good" = true) (k28 : PySem.W.keepIn K (.ref f28) = true)
    (a29 : PySem.W.nsIn K mainGlobals "_law_split_run" = some (some (.ref f29))) (l29 : K.lookup f29 = some ⟨oc29, od29, .func (PySem.W.fnOf "_law_split_run" "_law_split_run" (defArgs s_split_run) (defBody s_split_run) (defScope s_split_run) .none kV29 dc29 pm29 an29 cd29 ct29), sl29⟩) (c29 : PySem.W.codeIn K cd29 "_law_split_run" = true) (k29 : PySem.W.keepIn K (.ref f29) = true)
    (a30 : PySem.W.nsIn K mainGlobals "_law_things" = some (some (.ref f30))) (l30 : K.lookup f30 = some ⟨oc30, od30, .func (PySem.W.fnOf "_law_things" "_law_things" (defArgs s_things) (defBody s_things) (defScope s_things) .none kV30 dc30 pm30 an30 cd30 ct30), sl30⟩) (c30 : PySem.W.codeIn K cd30 "_law_things" = true) (k30 : PySem.W.keepIn K (.ref f30) = true)
    (a31 : PySem.W.nsIn K mainGlobals "law" = some (some (.ref f31))) (l31 : K.lookup f31 = some ⟨oc31, od31, .func (PySem.W.fnOf "law" "law" (defArgs s_law) (defBody s_law) (defScope s_law) .none kV31 dc31 pm31 an31 cd31 ct31), sl31⟩) (c31 : PySem.W.codeIn K cd31 "law" = true) (k31 : PySem.W.keepIn K (.ref f31) = true)
    (xa_FarError : PySem.W.nsIn K mainGlobals "FarError" = some (some (.ref x_FarError))) (xi_FarError : PySem.W.isClsIn K x_FarError = true) (xt_FarError : PySem.W.typeIn K (.ref x_FarError) = some (.type "type")) (xu_FarError : PySem.W.subIn K (.ref x_NoTelling) (.ref x_FarError) = some true)
    (xa_NoPage : PySem.W.nsIn K mainGlobals "NoPage" = some (some (.ref x_NoPage))) (xi_NoPage : PySem.W.isClsIn K x_NoPage = true) (xt_NoPage : PySem.W.typeIn K (.ref x_NoPage) = some (.type "type")) (xu_NoPage : PySem.W.subIn K (.ref x_NoTelling) (.ref x_NoPage) = some false)
    (xa_NoWords : PySem.W.nsIn K mainGlobals "NoWords" = some (some (.ref x_NoWords))) (xi_NoWords : PySem.W.isClsIn K x_NoWords = true) (xt_NoWords : PySem.W.typeIn K (.ref x_NoWords) = some (.type "type")) (xu_NoWords : PySem.W.subIn K (.ref x_NoTelling) (.ref x_NoWords) = some false)
    (xa_NoTelling : PySem.W.nsIn K mainGlobals "NoTelling" = some (some (.ref x_NoTelling))) (xi_NoTelling : PySem.W.isClsIn K x_NoTelling = true) (xt_NoTelling : PySem.W.typeIn K (.ref x_NoTelling) = some (.type "type")) (xu_NoTelling : PySem.W.subIn K (.ref x_NoTelling) (.ref x_NoTelling) = some true)
    (xa_NoFrame : PySem.W.nsIn K mainGlobals "NoFrame" = some (some (.ref x_NoFrame))) (xi_NoFrame : PySem.W.isClsIn K x_NoFrame = true) (xt_NoFrame : PySem.W.typeIn K (.ref x_NoFrame) = some (.type "type")) (xu_NoFrame : PySem.W.subIn K (.ref x_NoTelling) (.ref x_NoFrame) = some false)
    (xa_NoPiece : PySem.W.nsIn K mainGlobals "NoPiece" = some (some (.ref x_NoPiece))) (xi_NoPiece : PySem.W.isClsIn K x_NoPiece = true) (xt_NoPiece : PySem.W.typeIn K (.ref x_NoPiece) = some (.type "type")) (xu_NoPiece : PySem.W.subIn K (.ref x_NoTelling) (.ref x_NoPiece) = some false)
    (xa_NoName : PySem.W.nsIn K mainGlobals "NoName" = some (some (.ref x_NoName))) (xi_NoName : PySem.W.isClsIn K x_NoName = true) (xt_NoName : PySem.W.typeIn K (.ref x_NoName) = some (.type "type")) (xu_NoName : PySem.W.subIn K (.ref x_NoTelling) (.ref x_NoName) = some false)
    (xa_NoEnds : PySem.W.nsIn K mainGlobals "NoEnds" = some (some (.ref x_NoEnds))) (xi_NoEnds : PySem.W.isClsIn K x_NoEnds = true) (xt_NoEnds : PySem.W.typeIn K (.ref x_NoEnds) = some (.type "type")) (xu_NoEnds : PySem.W.subIn K (.ref x_NoTelling) (.ref x_NoEnds) = some false)
    (xa_NoCall : PySem.W.nsIn K mainGlobals "NoCall" = some (some (.ref x_NoCall))) (xi_NoCall : PySem.W.isClsIn K x_NoCall = true) (xt_NoCall : PySem.W.typeIn K (.ref x_NoCall) = some (.type "type")) (xu_NoCall : PySem.W.subIn K (.ref x_NoTelling) (.ref x_NoCall) = some false)
    (xa_NoSaying : PySem.W.nsIn K mainGlobals "NoSaying" = some (some (.ref x_NoSaying))) (xi_NoSaying : PySem.W.isClsIn K x_NoSaying = true) (xt_NoSaying : PySem.W.typeIn K (.ref x_NoSaying) = some (.type "type")) (xu_NoSaying : PySem.W.subIn K (.ref x_NoTelling) (.ref x_NoSaying) = some false)
    (xq_NoTelling : PySem.W.excIn K x_NoTelling veB "ValueError.__new__" = true) (xk_NoTelling : PySem.W.keepIn K (.ref x_NoTelling) = true) (xs_NoTelling : PySem.W.subIn K (.ref x_NoTelling) (.type "BaseException") = some true) (xs_FarError : PySem.W.subIn K (.ref x_FarError) (.type "BaseException") = some true) (xv_NoTelling : PySem.W.subIn K (.ref x_NoTelling) (.type "ValueError") = some true)
    (eg : PySem.W.findIn K (.ref x_NoTelling) "__getattribute__" = some (some (.builtin "BaseException.__getattribute__"))) (ek : PySem.W.findIn K (.ref x_NoTelling) "__getattr__" = some none) (ed : PySem.W.hasDictIn K x_NoTelling = true) (ea : PySem.W.findIn K (.ref x_NoTelling) "__class__" = some (some (.builtin "object.__class__"))) (en : PySem.W.specialIn K (.builtin "object.__class__") "__get__" = some (some (.builtin "getset_descriptor.__get__"))) (et : PySem.W.takesIn K (.builtin "object.__class__") = some true) (em : PySem.W.mroIn K x_NoTelling (.type "object") = some true)
    (z_ValueError : PySem.W.nsIn K mainGlobals "ValueError" = some none)
    (z_abs : PySem.W.nsIn K mainGlobals "abs" = some none)
    (z_all : PySem.W.nsIn K mainGlobals "all" = some none)
    (z_bool : PySem.W.nsIn K mainGlobals "bool" = some none)
    (z_enumerate : PySem.W.nsIn K mainGlobals "enumerate" = some none)
    (z_int : PySem.W.nsIn K mainGlobals "int" = some none)
    (z_isinstance : PySem.W.nsIn K mainGlobals "isinstance" = some none)
    (z_len : PySem.W.nsIn K mainGlobals "len" = some none)
    (z_list : PySem.W.nsIn K mainGlobals "list" = some none)
    (z_max : PySem.W.nsIn K mainGlobals "max" = some none)
    (z_min : PySem.W.nsIn K mainGlobals "min" = some none)
    (z_range : PySem.W.nsIn K mainGlobals "range" = some none)
    (z_sorted : PySem.W.nsIn K mainGlobals "sorted" = some none)
    (z_str : PySem.W.nsIn K mainGlobals "str" = some none)
    (z_tuple : PySem.W.nsIn K mainGlobals "tuple" = some none)
    (m_DARK : PySem.W.nsIn K mainGlobals "DARK" = some (some (.str "#" t_DARK)))
    (m_ENDS : PySem.W.nsIn K mainGlobals "ENDS" = some (some (.int (16) t_ENDS)))
    (m_LENGTHS : PySem.W.nsIn K mainGlobals "LENGTHS" = some (some (.ref t_LENGTHS)))
    (m_LIGHT : PySem.W.nsIn K mainGlobals "LIGHT" = some (some (.str "." t_LIGHT)))
    (m_MAKERS : PySem.W.nsIn K mainGlobals "MAKERS" = some (some (.int (4) t_MAKERS)))
    (dl_LENGTHS : K.lookup t_LENGTHS = some ⟨.type "dict", none, .dict es_LENGTHS en_LENGTHS, #[]⟩) (dk_LENGTHS : PySem.W.KeysLit w.params es_LENGTHS.toList)
    (de_LENGTHS_0 : PySem.W.nsIn K t_LENGTHS (Str.ofString ".") = some (some (.ref u_LENGTHS_0))) (dt_LENGTHS_0 : K.lookup u_LENGTHS_0 = some ⟨.type "tuple", dd_LENGTHS_0, .seq us_LENGTHS_0.toArray un_LENGTHS_0, ul_LENGTHS_0⟩) (dv_LENGTHS_0 : Vals [.int 6, .int 4, .int 4, .int 4, .int 4, .int 4, .int 5, .int 5, .int 5, .int 5, .int 6, .int 6, .int 6, .int 6, .int 6, .int 6, .int 4, .int 5, .int 6, .int 4] us_LENGTHS_0)
    (de_LENGTHS_1 : PySem.W.nsIn K t_LENGTHS (Str.ofString "#") = some (some (.ref u_LENGTHS_1))) (dt_LENGTHS_1 : K.lookup u_LENGTHS_1 = some ⟨.type "tuple", dd_LENGTHS_1, .seq us_LENGTHS_1.toArray un_LENGTHS_1, ul_LENGTHS_1⟩) (dv_LENGTHS_1 : Vals [.int 7, .int 2, .int 3, .int 3, .int 4, .int 4, .int 5, .int 5, .int 5, .int 6, .int 6, .int 6, .int 7, .int 7, .int 7, .int 7, .int 6, .int 7, .int 7, .int 7] us_LENGTHS_1)
    : LamX.LawAtS l w K CX0 8 63 "_law_script" mg fa h := by
  have e := hfa.symm.trans (PySem.W.mg_of X G a31)
  cases e
  have F0 := fun_mk (st := s_is_bits) l0 c0 k0
  have b0 := F0.binds (ps := P_is_bits) fun _ _ _ _ _ _ us hl => match us, hl with | [_], _ => rfl
  have F1 := fun_mk (st := s_other_cell) l1 c1 k1
  have b1 := F1.binds (ps := P_other_cell) fun _ _ _ _ _ _ us hl => match us, hl with | [_], _ => rfl
  have F2 := fun_mk (st := s_words_by) l2 c2 k2
  have b2 := F2.binds (ps := P_words_by) fun _ _ _ _ _ _ us hl => match us, hl with | [_], _ => rfl
  have F3 := fun_mk (st := s_making_order) l3 c3 k3
  have b3 := F3.binds (ps := P_making_order) fun _ _ _ _ _ _ us hl => match us, hl with | [_], _ => rfl
  have F4 := fun_mk (st := s_one_less) l4 c4 k4
  have b4 := F4.binds (ps := P_one_less) fun _ _ _ _ _ _ us hl => match us, hl with | [_], _ => rfl
  have F5 := fun_mk (st := s_colour_words) l5 c5 k5
  have b5 := F5.binds (ps := P_colour_words) fun _ _ _ _ _ _ us hl => match us, hl with | [_], _ => rfl
  have F6 := fun_mk (st := s_run_by) l6 c6 k6
  have b6 := F6.binds (ps := P_run_by) fun _ _ _ _ _ _ us hl => match us, hl with | [_, _], _ => rfl
  have F7 := fun_mk (st := s_run_tables) l7 c7 k7
  have b7 := F7.binds (ps := P_run_tables) fun _ _ _ _ _ _ us hl => match us, hl with | [_], _ => rfl
  have F8 := fun_mk (st := s_run_table) l8 c8 k8
  have b8 := F8.binds (ps := P_run_table) fun _ _ _ _ _ _ us hl => match us, hl with | [_, _], _ => rfl
  have F9 := fun_mk (st := s_read_by) l9 c9 k9
  have b9 := F9.binds (ps := P_read_by) fun _ _ _ _ _ _ us hl => match us, hl with | [_, _, _], _ => rfl
  have F10 := fun_mk (st := s_read_plain) l10 c10 k10
  have b10 := F10.binds (ps := P_read_plain) fun _ _ _ _ _ _ us hl => match us, hl with | [_, _], _ => rfl
  have F11 := fun_mk (st := s_bag) l11 c11 k11
  have b11 := F11.binds (ps := P_bag) fun _ _ _ _ _ _ us hl => match us, hl with | [_, _], _ => rfl
  have F12 := fun_mk (st := s_draw) l12 c12 k12
  have b12 := F12.binds (ps := P_draw) fun _ _ _ _ _ _ us hl => match us, hl with | [_, _], _ => rfl
  have F13 := fun_mk (st := s_row) l13 c13 k13
  have b13 := F13.binds (ps := P_row) fun _ _ _ _ _ _ us hl => match us, hl with | [_, _, _], _ => rfl
  have F14 := fun_mk (st := s_whole) l14 c14 k14
  have b14 := F14.binds (ps := P_whole) fun _ _ _ _ _ _ us hl => match us, hl with | [_], _ => rfl
  have F15 := fun_mk (st := s_less) l15 c15 k15
  have b15 := F15.binds (ps := P_less) fun _ _ _ _ _ _ us hl => match us, hl with | [_], _ => rfl
  have F16 := fun_mk (st := s_words) l16 c16 k16
  have b16 := F16.binds (ps := P_words) fun _ _ _ _ _ _ us hl => match us, hl with | [_], _ => rfl
  have F17 := fun_mk (st := s_tables) l17 c17 k17
  have b17 := F17.binds (ps := P_tables) fun _ _ _ _ _ _ us hl => match us, hl with | [], _ => rfl
  have F18 := fun_mk (st := s_run) l18 c18 k18
  have b18 := F18.binds (ps := P_run) fun _ _ _ _ _ _ us hl => match us, hl with | [_, _, _], _ => rfl
  have F19 := fun_mk (st := s_plain) l19 c19 k19
  have b19 := F19.binds (ps := P_plain) fun _ _ _ _ _ _ us hl => match us, hl with | [_, _], _ => rfl
  have F20 := fun_mk (st := s_run_at) l20 c20 k20
  have b20 := F20.binds (ps := P_run_at) fun _ _ _ _ _ _ us hl => match us, hl with | [_, _, _, _], _ => rfl
  have F21 := fun_mk (st := s_read_plain_l) l21 c21 k21
  have b21 := F21.binds (ps := P_read_plain_l) fun _ _ _ _ _ _ us hl => match us, hl with | [_, _, _], _ => rfl
  have F22 := fun_mk (st := s_spoils) l22 c22 k22
  have b22 := F22.binds (ps := P_spoils) fun _ _ _ _ _ _ us hl => match us, hl with | [_, _, _], _ => rfl
  have F23 := fun_mk (st := s_lspoiled) l23 c23 k23
  have b23 := F23.binds (ps := P_lspoiled) fun _ _ _ _ _ _ us hl => match us, hl with | [_, _], _ => rfl
  have F24 := fun_mk (st := s_signs) l24 c24 k24
  have b24 := F24.binds (ps := P_signs) fun _ _ _ _ _ _ us hl => match us, hl with | [], _ => rfl
  have F25 := fun_mk (st := s_odd) l25 c25 k25
  have b25 := F25.binds (ps := P_odd) fun _ _ _ _ _ _ us hl => match us, hl with | [_], _ => rfl
  have F26 := fun_mk (st := s_only) l26 c26 k26
  have b26 := F26.binds (ps := P_only) fun _ _ _ _ _ _ us hl => match us, hl with | [_, _], _ => rfl
  have F27 := fun_mk (st := s_due) l27 c27 k27
  have b27 := F27.binds (ps := P_due) fun _ _ _ _ _ _ us hl => match us, hl with | [_, _, _], _ => rfl
  have F28 := fun_mk (st := s_good) l28 c28 k28
  have b28 := F28.binds (ps := P_good) fun _ _ _ _ _ _ us hl => match us, hl with | [_, _, _], _ => rfl
  have F29 := fun_mk (st := s_split_run) l29 c29 k29
  have b29 := F29.binds (ps := P_split_run) fun _ _ _ _ _ _ us hl => match us, hl with | [_, _], _ => rfl
  have F30 := fun_mk (st := s_things) l30 c30 k30
  have b30 := F30.binds (ps := P_things) fun _ _ _ _ _ _ us hl => match us, hl with | [_, _, _], _ => rfl
  have F31 := fun_mk (st := s_law) l31 c31 k31
  refine ⟨PySem.W.fnOf "law" "law" (defArgs s_law) (defBody s_law) (defScope s_law) .none kV31 dc31 pm31 an31 cd31 ct31, [(k_making_order, p_making_order)], spLaw K p_making_order, ?_, ?_, ?_, fun s v => .of_eq rfl, ?_, fun base kb nb tb => ?_⟩
  · intro q hq; rw [List.mem_singleton.mp hq]; exact hT_making_order
  · intro q hq; rw [List.mem_singleton.mp hq]; exact nT_making_order
  · intro q hq; rw [List.mem_singleton.mp hq]; exact PySem.W.codeHd_of_K X hd_making_order
  · exact fun H a ns hl _ hH hS => ⟨a, ns, rfl, hS, hl, hH _ (List.mem_singleton.mpr rfl), fun _ => rfl⟩
  · exact ok_law (A := ⟨f0, _, f1, _, f2, _, f3, _, f4, _, f5, _, f6, _, f7, _, f8, _, f9, _, f10, _, f11, _, f12, _, f13, _, f14, _, f15, _, f16, _, f17, _, f18, _, f19, _, f20, _, f21, _, f22, _, f23, _, f24, _, f25, _, f26, _, f27, _, f28, _, f29, _, f30, _, fa, _, t_DARK, t_ENDS, t_LENGTHS, t_LIGHT, t_MAKERS, k_making_order, p_making_order, u_LENGTHS_0, u_LENGTHS_1, x_FarError, x_NoPage, x_NoWords, x_NoTelling, x_NoFrame, x_NoPiece, x_NoName, x_NoEnds, x_NoCall, x_NoSaying⟩) ⟨F0, b0, PySem.W.mg_of X G a0, F1, b1, PySem.W.mg_of X G a1, F2, b2, PySem.W.mg_of X G a2, F3, b3, PySem.W.mg_of X G a3, F4, b4, PySem.W.mg_of X G a4, F5, b5, PySem.W.mg_of X G a5, F6, b6, PySem.W.mg_of X G a6, F7, b7, PySem.W.mg_of X G a7, F8, b8, PySem.W.mg_of X G a8, F9, b9, PySem.W.mg_of X G a9, F10, b10, PySem.W.mg_of X G a10, F11, b11, PySem.W.mg_of X G a11, F12, b12, PySem.W.mg_of X G a12, F13, b13, PySem.W.mg_of X G a13, F14, b14, PySem.W.mg_of X G a14, F15, b15, PySem.W.mg_of X G a15, F16, b16, PySem.W.mg_of X G a16, F17, b17, PySem.W.mg_of X G a17, F18, b18, PySem.W.mg_of X G a18, F19, b19, PySem.W.mg_of X G a19, F20, b20, PySem.W.mg_of X G a20, F21, b21, PySem.W.mg_of X G a21, F22, b22, PySem.W.mg_of X G a22, F23, b23, PySem.W.mg_of X G a23, F24, b24, PySem.W.mg_of X G a24, F25, b25, PySem.W.mg_of X G a25, F26, b26, PySem.W.mg_of X G a26, F27, b27, PySem.W.mg_of X G a27, F28, b28, PySem.W.mg_of X G a28, F29, b29, PySem.W.mg_of X G a29, F30, b30, PySem.W.mg_of X G a30, F31, PySem.W.mg_of X G a31, tb _ (List.mem_singleton.mpr rfl), ⟨_, _, _, _, _, _, _, _, l3, c3⟩, ⟨_, _, _, dl_LENGTHS, dk_LENGTHS, de_LENGTHS_0, rfl⟩, fun H => .inr ⟨_, us_LENGTHS_0.toArray, _, dt_LENGTHS_0, rfl, rfl, by rw [List.size_toArray, ← dv_LENGTHS_0.length]; exact sz (by decide), by simpa using dv_LENGTHS_0⟩, ⟨_, _, _, dl_LENGTHS, dk_LENGTHS, de_LENGTHS_1, rfl⟩, fun H => .inr ⟨_, us_LENGTHS_1.toArray, _, dt_LENGTHS_1, rfl, rfl, by rw [List.size_toArray, ← dv_LENGTHS_1.length]; exact sz (by decide), by simpa using dv_LENGTHS_1⟩, PySem.W.mg_of X G xa_FarError, kit_own xu_NoTelling xi_FarError xt_FarError xu_FarError, PySem.W.mg_of X G xa_NoPage, kit_own xu_NoTelling xi_NoPage xt_NoPage xu_NoPage, PySem.W.mg_of X G xa_NoWords, kit_own xu_NoTelling xi_NoWords xt_NoWords xu_NoWords, PySem.W.mg_of X G xa_NoTelling, kit_own xu_NoTelling xi_NoTelling xt_NoTelling xu_NoTelling, PySem.W.mg_of X G xa_NoFrame, kit_own xu_NoTelling xi_NoFrame xt_NoFrame xu_NoFrame, PySem.W.mg_of X G xa_NoPiece, kit_own xu_NoTelling xi_NoPiece xt_NoPiece xu_NoPiece, PySem.W.mg_of X G xa_NoName, kit_own xu_NoTelling xi_NoName xt_NoName xu_NoName, PySem.W.mg_of X G xa_NoEnds, kit_own xu_NoTelling xi_NoEnds xt_NoEnds xu_NoEnds, PySem.W.mg_of X G xa_NoCall, kit_own xu_NoTelling xi_NoCall xt_NoCall xu_NoCall, PySem.W.mg_of X G xa_NoSaying, kit_own xu_NoTelling xi_NoSaying xt_NoSaying xu_NoSaying, xq_NoTelling, xk_NoTelling, xs_NoTelling, xt_NoTelling, ⟨eg, ek, xs_NoTelling, ed, ea, en, et, em⟩, kit_ve xv_NoTelling, exm_sub xs_FarError xi_FarError xt_FarError xu_FarError, PySem.W.mg_none_of X G z_ValueError, PySem.W.mg_none_of X G z_abs, PySem.W.mg_none_of X G z_all, PySem.W.mg_none_of X G z_bool, PySem.W.mg_none_of X G z_enumerate, PySem.W.mg_none_of X G z_int, PySem.W.mg_none_of X G z_isinstance, PySem.W.mg_none_of X G z_len, PySem.W.mg_none_of X G z_list, PySem.W.mg_none_of X G z_max, PySem.W.mg_none_of X G z_min, PySem.W.mg_none_of X G z_range, PySem.W.mg_none_of X G z_sorted, PySem.W.mg_none_of X G z_str, PySem.W.mg_none_of X G z_tuple, PySem.W.mg_of X G m_DARK, PySem.W.mg_of X G m_ENDS, PySem.W.mg_of X G m_LENGTHS, PySem.W.mg_of X G m_LIGHT, PySem.W.mg_of X G m_MAKERS⟩
end K11
open PySem PySem.W PyProof.Rows
set_option maxHeartbeats 0 in
theorem PySem.Challenge.cw_farpage_k11_plain_tellings_spoilt_holds : PySem.Challenge.rw_farpage_k11_plain_tellings_spoilt.Holds := by
  w_on; o_law; k_head; (case hw => w_witness2)
  k_fill
  refine LamX.walk_ofTs (l := PySem.Challenge.rw_farpage_k11_plain_tellings_spoilt) (n := 63) (k := 8) (x := "_law_script") (CX := fun _ => L2.CX0) rfl (by decide) rfl ⟨rfl, by decide, by decide⟩ (fun w h Y => PySem.W.km_in_of Y) ?F (fun _ _ _ _ _ h => h)
  case F =>
    intro w mg fa h Y KX G hmg
    have tabs := PySem.W.km_tabs_of Y
    refine' K11.all_mk KX G hmg ?a0 ?l0 ?c0 ?k0 ?a1 ?l1 ?c1 ?k1 ?a2 ?l2 ?c2 ?k2 ?a3 ?l3 ?c3 ?k3 ?hT_making_order ?hd_making_order ?nT_making_order ?a4 ?l4 ?c4 ?k4 ?a5 ?l5 ?c5 ?k5 ?a6 ?l6 ?c6 ?k6 ?a7 ?l7 ?c7 ?k7 ?a8 ?l8 ?c8 ?k8 ?a9 ?l9 ?c9 ?k9 ?a10 ?l10 ?c10 ?k10 ?a11 ?l11 ?c11 ?k11 ?a12 ?l12 ?c12 ?k12 ?a13 ?l13 ?c13 ?k13 ?a14 ?l14 ?c14 ?k14 ?a15 ?l15 ?c15 ?k15 ?a16 ?l16 ?c16 ?k16 ?a17 ?l17 ?c17 ?k17 ?a18 ?l18 ?c18 ?k18 ?a19 ?l19 ?c19 ?k19 ?a20 ?l20 ?c20 ?k20 ?a21 ?l21 ?c21 ?k21 ?a22 ?l22 ?c22 ?k22 ?a23 ?l23 ?c23 ?k23 ?a24 ?l24 ?c24 ?k24 ?a25 ?l25 ?c25 ?k25 ?a26 ?l26 ?c26 ?k26 ?a27 ?l27 ?c27 ?k27 ?a28 ?l28 ?c28 ?k28 ?a29 ?l29 ?c29 ?k29 ?a30 ?l30 ?c30 ?k30 ?a31 ?l31 ?c31 ?k31 ?xa_FarError ?xi_FarError ?xt_FarError ?xu_FarError ?xa_NoPage ?xi_NoPage ?xt_NoPage ?xu_NoPage ?xa_NoWords ?xi_NoWords ?xt_NoWords ?xu_NoWords ?xa_NoTelling ?xi_NoTelling ?xt_NoTelling ?xu_NoTelling ?xa_NoFrame ?xi_NoFrame ?xt_NoFrame ?xu_NoFrame ?xa_NoPiece ?xi_NoPiece ?xt_NoPiece ?xu_NoPiece ?xa_NoName ?xi_NoName ?xt_NoName ?xu_NoName ?xa_NoEnds ?xi_NoEnds ?xt_NoEnds ?xu_NoEnds ?xa_NoCall ?xi_NoCall ?xt_NoCall ?xu_NoCall ?xa_NoSaying ?xi_NoSaying ?xt_NoSaying ?xu_NoSaying ?xq_NoTelling ?xk_NoTelling ?xs_NoTelling ?xs_FarError ?xv_NoTelling ?eg ?ek ?ed ?ea ?en ?et ?em ?z_ValueError ?z_abs ?z_all ?z_bool ?z_enumerate ?z_int ?z_isinstance ?z_len ?z_list ?z_max ?z_min ?z_range ?z_sorted ?z_str ?z_tuple ?m_DARK ?m_ENDS ?m_LENGTHS ?m_LIGHT ?m_MAKERS ?dl_LENGTHS ?dk_LENGTHS ?de_LENGTHS_0 ?dt_LENGTHS_0 ?dv_LENGTHS_0 ?de_LENGTHS_1 ?dt_LENGTHS_1 ?dv_LENGTHS_1
    (case xa_FarError => k_is)
    (case xa_NoPage => k_is)
    (case xa_NoWords => k_is)
    (case xa_NoTelling => k_is)
    (case xa_NoFrame => k_is)
    (case xa_NoPiece => k_is)
    (case xa_NoName => k_is)
    (case xa_NoEnds => k_is)
    (case xa_NoCall => k_is)
    (case xa_NoSaying => k_is)
    (case a0 => k_is)
    (case l0 => k_is)
    (case c0 => k_is)
    (case k0 => k_is)
    (case a1 => k_is)
    (case l1 => k_is)
    (case c1 => k_is)
    (case k1 => k_is)
    (case a2 => k_is)
    (case l2 => k_is)
    (case c2 => k_is)
    (case k2 => k_is)
    (case a3 => k_is)
    (case l3 => k_is)
    (case c3 => k_is)
    (case k3 => k_is)
    (case hT_making_order => exact tabs _ (List.mem_singleton.mpr rfl))
    (case hd_making_order => first | k_is | exact rfl | kernel_rfl)
    (case nT_making_order => first | exact rfl | kernel_rfl)
    (case a4 => k_is)
    (case l4 => k_is)
    (case c4 => k_is)
    (case k4 => k_is)
    (case a5 => k_is)
    (case l5 => k_is)
    (case c5 => k_is)
    (case k5 => k_is)
    (case a6 => k_is)
    (case l6 => k_is)
    (case c6 => k_is)
    (case k6 => k_is)
    (case a7 => k_is)
    (case l7 => k_is)
    (case c7 => k_is)
    (case k7 => k_is)
    (case a8 => k_is)
    (case l8 => k_is)
    (case c8 => k_is)
    (case k8 => k_is)
    (case a9 => k_is)
    (case l9 => k_is)
    (case c9 => k_is)
    (case k9 => k_is)
    (case a10 => k_is)
    (case l10 => k_is)
    (case c10 => k_is)
    (case k10 => k_is)
    (case a11 => k_is)
    (case l11 => k_is)
    (case c11 => k_is)
    (case k11 => k_is)
    (case a12 => k_is)
    (case l12 => k_is)
    (case c12 => k_is)
    (case k12 => k_is)
    (case a13 => k_is)
    (case l13 => k_is)
    (case c13 => k_is)
    (case k13 => k_is)
    (case a14 => k_is)
    (case l14 => k_is)
    (case c14 => k_is)
    (case k14 => k_is)
    (case a15 => k_is)
    (case l15 => k_is)
    (case c15 => k_is)
    (case k15 => k_is)
    (case a16 => k_is)
    (case l16 => k_is)
    (case c16 => k_is)
    (case k16 => k_is)
    (case a17 => k_is)
    (case l17 => k_is)
    (case c17 => k_is)
    (case k17 => k_is)
    (case a18 => k_is)
    (case l18 => k_is)
    (case c18 => k_is)
    (case k18 => k_is)
    (case a19 => k_is)
    (case l19 => k_is)
    (case c19 => k_is)
    (case k19 => k_is)
    (case a20 => k_is)
    (case l20 => k_is)
    (case c20 => k_is)
    (case k20 => k_is)
    (case a21 => k_is)
    (case l21 => k_is)
    (case c21 => k_is)
    (case k21 => k_is)
    (case a22 => k_is)
    (case l22 => k_is)
    (case c22 => k_is)
    (case k22 => k_is)
    (case a23 => k_is)
    (case l23 => k_is)
    (case c23 => k_is)
    (case k23 => k_is)
    (case a24 => k_is)
    (case l24 => k_is)
    (case c24 => k_is)
    (case k24 => k_is)
    (case a25 => k_is)
    (case l25 => k_is)
    (case c25 => k_is)
    (case k25 => k_is)
    (case a26 => k_is)
    (case l26 => k_is)
    (case c26 => k_is)
    (case k26 => k_is)
    (case a27 => k_is)
    (case l27 => k_is)
    (case c27 => k_is)
    (case k27 => k_is)
    (case a28 => k_is)
    (case l28 => k_is)
    (case c28 => k_is)
    (case k28 => k_is)
    (case a29 => k_is)
    (case l29 => k_is)
    (case c29 => k_is)
    (case k29 => k_is)
    (case a30 => k_is)
    (case l30 => k_is)
    (case c30 => k_is)
    (case k30 => k_is)
    (case a31 => k_is)
    (case l31 => k_is)
    (case c31 => k_is)
    (case k31 => k_is)
    (case xi_FarError => k_is)
    (case xt_FarError => k_is)
    (case xu_FarError => first | rfl | k_is)
    (case xi_NoPage => k_is)
    (case xt_NoPage => k_is)
    (case xu_NoPage => first | rfl | k_is)
    (case xi_NoWords => k_is)
    (case xt_NoWords => k_is)
    (case xu_NoWords => first | rfl | k_is)
    (case xi_NoTelling => k_is)
    (case xt_NoTelling => k_is)
    (case xu_NoTelling => first | rfl | k_is)
    (case xi_NoFrame => k_is)
    (case xt_NoFrame => k_is)
    (case xu_NoFrame => first | rfl | k_is)
    (case xi_NoPiece => k_is)
    (case xt_NoPiece => k_is)
    (case xu_NoPiece => first | rfl | k_is)
    (case xi_NoName => k_is)
    (case xt_NoName => k_is)
    (case xu_NoName => first | rfl | k_is)
    (case xi_NoEnds => k_is)
    (case xt_NoEnds => k_is)
    (case xu_NoEnds => first | rfl | k_is)
    (case xi_NoCall => k_is)
    (case xt_NoCall => k_is)
    (case xu_NoCall => first | rfl | k_is)
    (case xi_NoSaying => k_is)
    (case xt_NoSaying => k_is)
    (case xu_NoSaying => first | rfl | k_is)
    (case xq_NoTelling => k_exc)
    (case xk_NoTelling => k_is)
    (case xs_NoTelling => k_is)
    (case xs_FarError => k_is)
    (case xv_NoTelling => k_is)
    (case eg => k_is)
    (case ek => k_is)
    (case ed => k_is)
    (case ea => k_is)
    (case en => k_is)
    (case et => k_is)
    (case em => k_is)
    (case z_ValueError => k_is)
    (case z_abs => k_is)
    (case z_all => k_is)
    (case z_bool => k_is)
    (case z_enumerate => k_is)
    (case z_int => k_is)
    (case z_isinstance => k_is)
    (case z_len => k_is)
    (case z_list => k_is)
    (case z_max => k_is)
    (case z_min => k_is)
    (case z_range => k_is)
    (case z_sorted => k_is)
    (case z_str => k_is)
    (case z_tuple => k_is)
    (case m_DARK => k_is)
    (case m_ENDS => k_is)
    (case m_LENGTHS => k_is)
    (case m_LIGHT => k_is)
    (case m_MAKERS => k_is)
    (case dl_LENGTHS => k_is)
    (case dk_LENGTHS => k_keys)
    (case de_LENGTHS_0 => k_is)
    (case dt_LENGTHS_0 => k_is)
    (case dv_LENGTHS_0 => repeat (first | exact .nil | refine .cons ⟨_, rfl⟩ ?_ | refine .cons rfl ?_))
    (case de_LENGTHS_1 => k_is)
    (case dt_LENGTHS_1 => k_is)
    (case dv_LENGTHS_1 => repeat (first | exact .nil | refine .cons ⟨_, rfl⟩ ?_ | refine .cons rfl ?_))
