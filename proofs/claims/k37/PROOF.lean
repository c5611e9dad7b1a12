import PyProof.Rows.All
import Wide.All
import OpenK.AllK
import Wide.FinOn
import HandS.ForMost
import HandS.IsInst
import HandS.StrMore
import HandS.Codes
import HandS.Evl
import HandS.TupAny
import HandS.TupMul
import HandS.Walk
import PyProof.Rows.StrJoinRep
import HandS.WideBits
import HandS.More
import HandS.EndTab
import PyProof.ReprLen
import PyProof.ReprRoads
import HandS.WordsDict
import HandS.Small
import PyProof.CallStr
import HandS.Style
import HandS.Zip
import HandS.Text
import PySem.Challenge.RW_farpage_k37_settings
set_option Elab.async false
set_option linter.all false
set_option maxRecDepth 100000
set_option maxHeartbeats 4000000
/-! Rules of our own over the hand layer: a sign times an int, list(text), ljust with a sign. -/
namespace Fp
open PySem L2 PyProof.Rows
/-- a text by its codes -/
def sOf (l : List Nat) : Str := ⟨l.toArray⟩
theorem sOf_list (l : List Nat) : (sOf l).cps.toList = l := by simp [sOf]
theorem sOf_len (l : List Nat) : (sOf l).length = l.length := by simp [sOf, Str.length]
theorem of_list {z : Str} {l : List Nat} (h : z.cps.toList = l) : z = sOf l := str_of_list (by rw [h, sOf_list])
theorem sOf_inj {l m : List Nat} (h : sOf l = sOf m) : l = m := by
  have := congrArg (fun z => z.cps.toList) h
  simpa [sOf] using this
theorem sOf_app (l m : List Nat) : sOf l ++ sOf m = sOf (l ++ m) := by
  apply of_list
  show ((sOf l) ++ (sOf m)).cps.toList = l ++ m
  rw [show ((sOf l) ++ (sOf m)).cps = (sOf l).cps ++ (sOf m).cps from rfl]
  simp [sOf]
section
variable {X : Cx}
theorem op_mul_str : OpR X (binaryOp .Mult) (fun x y H Q => ∃ c n, x = .str (sOf [c]) ∧ y = .int n ∧ (-100000 ≤ n ∧ n ≤ 100000) ∧ Q (.str (sOf (List.replicate n.toNat c))) H) := by
  intro pins s σ H x y v u Q I rx ry h
  obtain ⟨c, n, rfl, rfl, hz, q⟩ := h
  obtain ⟨t, rfl⟩ := rx
  obtain ⟨t', rfl⟩ := ry
  refine SB.mul (mulOk_of 1 100000 (by rw [sOf_len]; exact Nat.le_refl _) (by omega) (by omega) (by decide) (by decide)) fun t' k => ?_
  have e : Txt.mul (sOf [c]) n = sOf (List.replicate n.toNat c) := of_list (mul_one_list c n)
  rw [e]
  exact ⟨.str (sOf (List.replicate n.toNat c)), H, I.tok _, ⟨_, rfl⟩, q⟩
theorem padOk {i : Int} (h0 : 0 ≤ i) (h1 : i ≤ 100000) : PadOk i = true := padOk_of (by omega) (by omega)
theorem mt_ljustF : MtR X "str.ljust" (fun x xs H Q => ∃ (l : List Nat) (i : Int) (c : Nat), x = .str (sOf l) ∧ xs = [.int i, .str (sOf [c])] ∧ (0 ≤ i ∧ i ≤ 100000) ∧ Q (.str (sOf (l ++ List.replicate (i.toNat - l.length) c))) H) := by
  intro pins s σ H x xs v us Q I rx rs h
  obtain ⟨l, i, c, rfl, rfl, hz, q⟩ := h
  obtain ⟨t, rfl⟩ := rx
  obtain ⟨u, w', rfl, ⟨t', rfl⟩, ⟨t'', rfl⟩⟩ := vals2 rs
  refine ljust_fill (padOk hz.1 hz.2) (sOf_len _) fun t' k => ?_
  have e : Txt.ljustF (sOf l) i ((sOf [c]).cps.getD 0 0) = sOf (l ++ List.replicate (i.toNat - l.length) c) := of_list (by
    rw [ljustF_list, sOf_list, sOf_len]
    rfl)
  rw [e]
  exact ⟨.str (sOf (l ++ List.replicate (i.toNat - l.length) c)), H, I.tok _, ⟨_, rfl⟩, q⟩
theorem vals_signs {acc : List Value} {l : List Nat} (h1 : acc.length = l.length) (h2 : ∀ (j : Nat) v, acc[j]? = some v → ∃ c u, l[j]? = some c ∧ v = .str ⟨#[c]⟩ u) : Vals (l.map fun c => V.str (sOf [c])) acc := by
  induction l generalizing acc with
  | nil =>
    cases acc with
    | nil => exact .nil
    | cons a r => simp at h1
  | cons c r ih =>
    cases acc with
    | nil => simp at h1
    | cons a b =>
      obtain ⟨c', u, e, rfl⟩ := h2 0 a rfl
      have e2 : c' = c := by simpa using e.symm
      subst e2
      exact .cons ⟨u, rfl⟩ (ih (by simpa using h1) fun j v hj => h2 (j + 1) v hj)
theorem call_list_str (hc : X.calm = true) : CallR X (.type "list") (fun xs H Q => ∃ z : List Nat, xs = [.str (sOf z)] ∧ z.length ≤ 100000 ∧ ∀ l, H l = none → Q (.ref l) (upd H l (.lst (z.map fun c => V.str (sOf [c]))))) := by
  intro pins s σ H xs us Q I r h
  obtain ⟨z, rfl, hz, q⟩ := h
  obtain ⟨u, rfl, t, rfl⟩ := vals1 r
  have hl : z.length ≤ sizeLine := Nat.le_trans hz (by decide)
  refine PySem.call_list_str (I.ok.hd hc) (sOf z) t (hn := by show (sOf z).length ≤ sizeLine; rw [sOf_len]; exact hl) fun h' tk acc' c' hk hS' hacc => ?_
  have r' : Vals (z.map fun c => V.str (sOf [c])) acc'.toList := vals_signs (by have := hacc.1; simpa [sOf] using this) fun j v hj => by
    obtain ⟨c, u, e, rfl⟩ := hacc.2 j v (by simpa using hj)
    exact ⟨c, u, by simpa [sOf] using e, rfl⟩
  exact ⟨.ref s.heap.objs.size, _, I.laid (t' := tk) hk (Nat.le_refl _) (show ObjOk X.prog X.w _ h' _ (.lst _) from ⟨by rw [List.length_map]; exact hl, acc'.toList, c', r', by simpa using hS'⟩), rfl, q _ (I.hok.fresh (Nat.le_refl _))⟩
end
/-! ### heaps -/
theorem same_new {H : Hp} {p : Addr} {o : HO} (h : H p = none) : Same H (upd H p o) := fun b x e => by
  rw [upd_ne (ne_of_none e h)]
  exact e
/-- what is new may change -/
theorem Same.mut {H H' : Hp} {p : Addr} {o : HO} (e : Same H H') (h : H p = none) : Same H (upd H' p o) := fun b x hb => by
  rw [upd_ne (ne_of_none hb h)]
  exact e b x hb
/-- a bag of the laws' draws -/
def BagAt (H : Hp) (b : Addr) : Prop := ∃ g s : Int, H b = some (.lst [.int g, .int s]) ∧ 0 ≤ g ∧ 0 ≤ s ∧ s < 1000000000000
/-- the bag has turned, what else stood stands -/
def Bx (b : Addr) (H H' : Hp) : Prop := BagAt H' b ∧ ∀ a o, a ≠ b → H a = some o → H' a = some o
theorem Bx.refl {b : Addr} {H : Hp} (h : BagAt H b) : Bx b H H := ⟨h, fun _ _ _ e => e⟩
theorem Bx.trans {b : Addr} {H H1 H2 : Hp} (x : Bx b H H1) (y : Bx b H1 H2) : Bx b H H2 := ⟨y.1, fun a o n e => y.2 a o n (x.2 a o n e)⟩
theorem Bx.drawn {b : Addr} {H : Hp} {g s : Int} (g0 : 0 ≤ g) (s0 : 0 ≤ s) (s1 : s < 1000000000000) : Bx b H (upd H b (.lst [.int g, .int s])) := ⟨⟨g, s, upd_same, g0, s0, s1⟩, fun a o n e => by
  rw [upd_ne n]
  exact e⟩
theorem Bx.same {b : Addr} {H H1 H2 : Hp} (x : Bx b H H1) (y : Same H1 H2) : Bx b H H2 := by
  obtain ⟨⟨g, s, h, r⟩, k⟩ := x
  exact ⟨⟨g, s, y _ _ h, r⟩, fun a o n e => y _ _ (k a o n e)⟩
/-- from before the bag was made -/
theorem Bx.back {b : Addr} {H0 H H' : Hp} (x : Bx b H H') (y : Same H0 H) (n : H0 b = none) : Same H0 H' := fun a o e => x.2 a o (ne_of_none e n) (y a o e)
theorem Bx.mut {b p : Addr} {H H' : Hp} {o : HO} (x : Bx b H H') (hp : H p = none) (n : p ≠ b) : Bx b H (upd H' p o) := by
  obtain ⟨⟨g, s, h, r⟩, k⟩ := x
  refine ⟨⟨g, s, by rw [upd_ne n.symm]; exact h, r⟩, fun a u m e => ?_⟩
  rw [upd_ne (ne_of_none e hp)]
  exact k a u m e
theorem Bx.free {b p : Addr} {H H' : Hp} (x : Bx b H H') (h : H' p = none) : H p = none := by
  have n : p ≠ b := by
    obtain ⟨g, s, e, _⟩ := x.1
    exact (ne_of_none e h).symm
  cases q : H p with
  | none => rfl
  | some o =>
    rw [x.2 p o n q] at h
    cases h
theorem BagAt.new {H : Hp} {p : Addr} {g s : Int} (g0 : 0 ≤ g) (s0 : 0 ≤ s) (s1 : s < 1000000000000) : BagAt (upd H p (.lst [.int g, .int s])) p := ⟨g, s, upd_same, g0, s0, s1⟩
theorem BagAt.ne {H : Hp} {b p : Addr} (h : BagAt H b) (n : H p = none) : p ≠ b := by
  obtain ⟨g, s, e, _⟩ := h
  exact (ne_of_none e n).symm
/-- a list's own address is no bag's where its items are texts -/
def cells (l : List Nat) : List V := l.map fun c => V.str (sOf [c])
theorem cells_len (l : List Nat) : (cells l).length = l.length := List.length_map ..
theorem cells_set (l : List Nat) (j c : Nat) : (cells l).set j (.str (sOf [c])) = cells (l.set j c) := by
  unfold cells
  rw [List.map_set]
theorem cells_app (l : List Nat) (c : Nat) : cells l ++ [.str (sOf [c])] = cells (l ++ [c]) := by
  unfold cells
  rw [List.map_append]
  rfl
/-- the cells of rows -/
def Cell (c : Nat) : Prop := c = 46 ∨ c = 35
def Row (l : List Nat) : Prop := ∀ c ∈ l, Cell c
theorem Row.set {l : List Nat} {j c : Nat} (h : Row l) (hc : Cell c) : Row (l.set j c) := fun x hx => by
  rcases List.mem_or_eq_of_mem_set hx with e | e
  · exact h x e
  · rw [e]
    exact hc
theorem Row.app {l : List Nat} {c : Nat} (h : Row l) (hc : Cell c) : Row (l ++ [c]) := fun x hx => by
  rcases List.mem_append.mp hx with e | e
  · exact h x e
  · rw [List.mem_singleton.mp e]
    exact hc
theorem Row.rep {n c : Nat} (hc : Cell c) : Row (List.replicate n c) := fun x hx => by
  rw [(List.mem_replicate.mp hx).2]
  exact hc
theorem Row.nil : Row [] := fun _ h => nomatch h
def cellN (i : Int) : Nat := if i = 0 then 46 else 35
theorem cellN_cell (i : Int) : Cell (cellN i) := by
  unfold cellN
  split
  · exact .inl rfl
  · exact .inr rfl
theorem cell_at {i : Int} (h0 : 0 ≤ i) (h1 : i < 2) : atI (Str.ofString ".#").cps.toList i = some (cellN i) := by
  have : i = 0 ∨ i = 1 := by omega
  rcases this with rfl | rfl <;> rfl
theorem two_len : (Str.ofString ".#").length ≤ sizeLine := by decide
theorem sz {n : Nat} (h : n ≤ 100000) : n ≤ sizeLine := Nat.le_trans h (by decide)
theorem szl {n : Nat} (h : n < 100000) : n < sizeLine := Nat.lt_of_lt_of_le h (by decide)
theorem sIx_nat' (n d a : Nat) : HT.sIx n d (some (a : Int)) = min a n := HT.sIx_nat n d a
theorem cutS_nat (l : List Nat) (a b : Nat) (ha : a ≤ l.length) (hb : b ≤ l.length) : cutS (sOf l) (some (a : Int)) (some (b : Int)) = sOf ((l.drop a).take (b - a)) := by
  unfold cutS
  rw [HT.sIx_nat, HT.sIx_nat, sOf_len, sOf_list, Nat.min_eq_left ha, Nat.min_eq_left hb]
  rfl
theorem take_more {α : Type} (l : List α) (i : Nat) (x : α) (h : l[i]? = some x) : l.take (i + 1) = l.take i ++ [x] := by
  rw [List.take_add_one, h]
  rfl
theorem range_more {α : Type} (f : Nat → α) (i : Nat) : (List.range (i + 1)).map f = (List.range i).map f ++ [f i] := by
  rw [List.range_succ, List.map_append]
  rfl
theorem join_cells : ∀ l : List Nat, Txt.join (Str.ofString "") (l.map fun c => sOf [c]) = sOf l := by
  intro l
  show Builtin.Str.glued (Str.ofString "") (l.map fun c => sOf [c]) = sOf l
  rw [StrLaws.glued_eq_join]
  induction l with
  | nil => rfl
  | cons c r ih =>
    cases r with
    | nil => rfl
    | cons d r =>
      show sOf [c] ++ Str.ofString "" ++ Str.join (Str.ofString "") (List.map (fun c => sOf [c]) (d :: r)) = sOf (c :: d :: r)
      rw [ih, show (Str.ofString "") = sOf [] from rfl, sOf_app, sOf_app]
      rfl
theorem cells_strs (l : List Nat) : cells l = (l.map fun c => sOf [c]).map V.str := by
  rw [List.map_map]
  rfl
theorem ones_sum (l : List Nat) : ((l.map fun c => sOf [c]).map (·.length)).sum = l.length := by
  induction l with
  | nil => rfl
  | cons c r ih =>
    rw [List.map_cons, List.map_cons, List.sum_cons, ih, sOf_len, List.length_cons]
    show 1 + r.length = r.length + 1
    omega
theorem join_size {l : List Nat} (h : l.length ≤ 100000) : ((l.map fun c => sOf [c]).map (·.length)).sum + (l.map fun c => sOf [c]).length * (Str.ofString "").length ≤ 16777216 := by
  rw [ones_sum, show (Str.ofString "").length = 0 from rfl]
  omega
theorem rep_one (n : Nat) (c : Nat) : (List.replicate n [V.str (sOf [c])]).flatten = cells (List.replicate n c) := by
  induction n with
  | zero => rfl
  | succ k ih =>
    rw [List.replicate_succ, List.flatten_cons, ih, List.replicate_succ]
    rfl

/-! ### lists and tuples of texts -/
def sV (l : List Nat) : V := .str (sOf l)
def sD (l : List Nat) : PyData := .str (sOf l)
theorem dp_rows {K : PySem.W.Frag} {H : Hp} : ∀ rows : List (List Nat), DpAll K H (rows.map sV) (rows.map sD)
  | [] => .nil
  | r :: rs => .cons (.str _) (dp_rows rs)
def Codes (l : List Nat) : Prop := ∀ c ∈ l, c < 128
theorem strOk_of {l : List Nat} (h : Codes l) : PyData.strOk (sOf l) = true := by
  unfold PyData.strOk sOf
  rw [Array.all_eq_true']
  intro c hc
  have h2 := h c (by simpa using hc)
  exact decide_eq_true (by omega)
theorem lay_rows : ∀ {rows : List (List Nat)}, (∀ r ∈ rows, Codes r) → PyData.canLayAll0 (rows.map sD) = true
  | [], _ => by simp [PyData.canLayAll0]
  | r :: rs, h => by
    have h1 : PyData.canLay0 (sD r) = true := by
      show PyData.canLay0 (.str (sOf r)) = true
      simp only [PyData.canLay0]
      exact strOk_of (h r (List.mem_cons_self ..))
    have h2 := lay_rows (rows := rs) fun x hx => h x (List.mem_cons_of_mem _ hx)
    simp only [List.map_cons, PyData.canLayAll0, h1, h2, Bool.and_true]
theorem depth_rows : ∀ rows : List (List Nat), PyData.depthAll (rows.map sD) = 0
  | [] => by simp [PyData.depthAll]
  | r :: rs => by
    have h := depth_rows rs
    simp only [List.map_cons, PyData.depthAll, h, sD, PyData.depth]
    rfl
theorem shaped_tup {rows : List (List Nat)} (h : ∀ r ∈ rows, Codes r) : SeqAt.shaped (.tuple (rows.map sD)) = true := by
  show (PyData.canLay0 (.tuple (rows.map sD)) && decide (PyData.depth (.tuple (rows.map sD)) ≤ 64)) = true
  rw [Bool.and_eq_true]
  refine ⟨by simp only [PyData.canLay0]; exact lay_rows h, decide_eq_true ?_⟩
  simp only [PyData.depth, depth_rows]
  omega
theorem shaped_lst {rows : List (List Nat)} (h : ∀ r ∈ rows, Codes r) : SeqAt.shaped (.list (rows.map sD)) = true := by
  show (PyData.canLay0 (.list (rows.map sD)) && decide (PyData.depth (.list (rows.map sD)) ≤ 64)) = true
  rw [Bool.and_eq_true]
  refine ⟨by simp only [PyData.canLay0]; exact lay_rows h, decide_eq_true ?_⟩
  simp only [PyData.depth, depth_rows]
  omega
theorem eqv_tup {rows : List (List Nat)} (h : ∀ r ∈ rows, Codes r) : PyData.eqv (.tuple (rows.map sD)) (.tuple (rows.map sD)) = true := SeqAt.eqv_refl _ (by simp only [PyData.canLay0]; exact lay_rows h)
theorem eqv_lst {rows : List (List Nat)} (h : ∀ r ∈ rows, Codes r) : PyData.eqv (.list (rows.map sD)) (.list (rows.map sD)) = true := SeqAt.eqv_refl _ (by simp only [PyData.canLay0]; exact lay_rows h)
theorem Row.codes {l : List Nat} (h : Row l) : Codes l := fun c hc => by
  rcases h c hc with e | e <;> rw [e] <;> decide
theorem same_t {K : PySem.W.Frag} {H H' : Hp} {a : Addr} {xs : List V} (e : Same H H') (h : SqT K H a xs) : SqT K H' a xs := Evl.ex_t e h
theorem cut1 (xs : List V) : cutV xs (some 1) none = xs.drop 1 := by
  unfold cutV
  rw [show HT.sIx xs.length 0 (some 1) = min 1 xs.length from HT.sIx_nat xs.length 0 1, HT.sIx_none]
  cases xs with
  | nil => rfl
  | cons x r =>
    rw [show min 1 (x :: r).length = 1 by
      rw [List.length_cons]
      omega]
    show (List.take ((x :: r).length - 1) r) = r
    rw [List.length_cons, Nat.add_sub_cancel]
    exact List.take_length

/-! ### tuples of any kind, texts times an int -/
section
variable {X : Cx}
theorem cutV_whole {xs : List V} {lo hi : Option Int} (h : HT.sIx xs.length 0 lo = 0 ∧ HT.sIx xs.length xs.length hi = xs.length) : cutV xs lo hi = xs := by
  unfold cutV
  rw [h.1, h.2]
  show (xs.drop 0).take (xs.length - 0) = xs
  rw [List.drop_zero, Nat.sub_zero, List.take_length]
theorem sl_tupW : SlR X (fun x lo hi H Q => ∃ a xs, x = .ref a ∧ H a = some (.tup xs) ∧ ∀ q H', Same H H' → H' q = some (.tup (cutV xs lo hi)) → Q (.ref q) H') := by
  intro pins s σ H x v vl vu lo hi sl Q I rx hs pl pu h
  obtain ⟨a, xs, rfl, hx, q⟩ := h
  refine sl_tupA pins s σ H _ v vl vu lo hi sl Q I rx hs pl pu ⟨a, xs, rfl, .inl (.inl hx), fun e => ?_, fun e p hp => ?_⟩
  · exact q a H (Same.refl H) (by rw [cutV_whole e]; exact hx)
  · exact q p _ (same_new hp) upd_same
theorem op_catW : OpR X (binaryOp .Add) (fun x y H Q => ∃ a b xs ys, x = .ref a ∧ y = .ref b ∧ H a = some (.tup xs) ∧ H b = some (.tup ys) ∧ xs.length + ys.length ≤ 100000 ∧ ∀ q H', Same H H' → H' q = some (.tup (xs ++ ys)) → Q (.ref q) H') := by
  intro pins s σ H x y v u Q I rx ry h
  obtain ⟨a, b, xs, ys, rfl, rfl, ha, hb, hz, q⟩ := h
  refine op_catA pins s σ H _ _ v u Q I rx ry ⟨a, b, xs, ys, rfl, rfl, .inl (.inl ha), .inl (.inl hb), sz hz, fun e => ?_, fun _ e => ?_, fun _ _ p hp => ?_⟩
  · subst e
    exact q b H (Same.refl H) hb
  · subst e
    exact q a H (Same.refl H) (by rw [List.append_nil]; exact ha)
  · exact q p _ (same_new hp) upd_same
theorem op_mul_txt : OpR X (binaryOp .Mult) (fun x y H Q => ∃ (z : Str) (n : Int), x = .str z ∧ y = .int n ∧ (0 ≤ n ∧ n ≤ 1000 ∧ z.length ≤ 1000) ∧ ∀ m : Str, (m.length : Int) = (z.length : Int) * n → Q (.str m) H) := by
  intro pins s σ H x y v u Q I rx ry h
  obtain ⟨z, n, rfl, rfl, hz, q⟩ := h
  obtain ⟨t, rfl⟩ := rx
  obtain ⟨t', rfl⟩ := ry
  refine SB.mul (mulOk_of 1000 1000 hz.2.2 (by omega) (by omega) (by decide) (by decide)) fun t' k => ?_
  have e := len_mul z n
  rw [if_neg (by simp; omega)] at e
  exact ⟨.str (Txt.mul z n), H, I.tok _, ⟨_, rfl⟩, q _ e⟩
end
theorem cutV_mem {xs : List V} {lo hi : Option Int} {v : V} (h : v ∈ cutV xs lo hi) : v ∈ xs := by
  unfold cutV at h
  exact List.mem_of_mem_drop (List.mem_of_mem_take h)
theorem cutV_len (xs : List V) (lo hi : Option Int) : (cutV xs lo hi).length ≤ xs.length := by
  unfold cutV
  rw [List.length_take, List.length_drop]
  omega
/-! ### things of the laws -/
def Flat (v : V) : Prop := v = .non ∨ (∃ x, v = .bl x) ∨ (∃ i, v = .int i) ∨ ∃ z : Str, v = .str z ∧ z.length ≤ 100000
def It (b : Addr) (H : Hp) (v : V) : Prop := Flat v ∨ (∃ a xs, v = .ref a ∧ a ≠ b ∧ H a = some (.lst xs)) ∨ ∃ a xs, v = .ref a ∧ H a = some (.tup xs)
def Tg (b : Addr) (H : Hp) (v : V) : Prop := Flat v ∨ (∃ a xs, v = .ref a ∧ a ≠ b ∧ H a = some (.lst xs)) ∨ ∃ a xs, v = .ref a ∧ H a = some (.tup xs) ∧ xs.length ≤ 1000 ∧ ∀ u ∈ xs, It b H u
theorem BagAt.tup {H : Hp} {b a : Addr} {xs : List V} (h : BagAt H b) (e : H a = some (.tup xs)) : a ≠ b := fun z => by
  obtain ⟨g, s, e2, _⟩ := h
  rw [z, e2] at e
  cases e
theorem It.bx {b : Addr} {H H' : Hp} {v : V} (h : It b H v) (hb : BagAt H b) (x : Bx b H H') : It b H' v := by
  rcases h with h | ⟨a, xs, rfl, n, e⟩ | ⟨a, xs, rfl, e⟩
  · exact .inl h
  · exact .inr (.inl ⟨a, xs, rfl, n, x.2 _ _ n e⟩)
  · exact .inr (.inr ⟨a, xs, rfl, x.2 _ _ (hb.tup e) e⟩)
theorem Tg.bx {b : Addr} {H H' : Hp} {v : V} (h : Tg b H v) (hb : BagAt H b) (x : Bx b H H') : Tg b H' v := by
  rcases h with h | ⟨a, xs, rfl, n, e⟩ | ⟨a, xs, rfl, e, l, k⟩
  · exact .inl h
  · exact .inr (.inl ⟨a, xs, rfl, n, x.2 _ _ n e⟩)
  · exact .inr (.inr ⟨a, xs, rfl, x.2 _ _ (hb.tup e) e, l, fun u hu => (k u hu).bx hb x⟩)
theorem Tg.it {b : Addr} {H : Hp} {v : V} (h : Tg b H v) : It b H v := by
  rcases h with h | h | ⟨a, xs, rfl, e, l, k⟩
  · exact .inl h
  · exact .inr (.inl h)
  · exact .inr (.inr ⟨a, xs, rfl, e⟩)
theorem Tg.str {b : Addr} {H : Hp} {z : Str} (h : z.length ≤ 100000) : Tg b H (.str z) := .inl (.inr (.inr (.inr ⟨z, rfl, h⟩)))
theorem It.str {b : Addr} {H : Hp} {z : Str} (h : z.length ≤ 100000) : It b H (.str z) := .inl (.inr (.inr (.inr ⟨z, rfl, h⟩)))
theorem str_sOf (z : Str) : z = sOf z.cps.toList := of_list rfl

/-! ### rules whose new objects stand in an opaque heap -/
section
variable {X : Cx} {es : List Expr} {t : TA} {pos : Pos}
theorem pe_weaken {e : Expr} {te tf : TE} (h : PE X e te) (k : ∀ σ H Q, tf σ H Q → te σ H Q) : PE X e tf := ⟨fun pins s σ H Q I q => h.run pins s σ H Q I (k σ H Q q)⟩
def tLstW (t : TA) : TE := fun σ H Q => t σ H fun xs H1 => xs.length ≤ 100000 ∧ ∀ p H2, H1 p = none → Same H1 H2 → H2 p = some (.lst xs) → Q (.ref p) H2
def tTupW (t : TA) : TE := fun σ H Q => t σ H fun xs H1 => xs.length ≤ 100000 ∧ ∀ p H2, H1 p = none → Same H1 H2 → H2 p = some (.tup xs) → Q (.ref p) H2
end
def rNewW (H : Hp) (o : HO) (Q : VK) : Prop := ∀ p H2, H p = none → Same H H2 → H2 p = some o → Q (.ref p) H2
theorem rNewW.go {H : Hp} {o : HO} {Q : VK} (q : rNewW H o Q) : ∀ p, H p = none → Q (.ref p) (upd H p o) := fun p hp => q p _ hp (same_new hp) upd_same
section
variable {X : Cx}
theorem op_catLW : OpR X (binaryOp .Add) (fun x y H Q => ∃ a b xs ys, x = .ref a ∧ y = .ref b ∧ H a = some (.lst xs) ∧ H b = some (.lst ys) ∧ xs.length + ys.length ≤ 100000 ∧ rNewW H (.lst (xs ++ ys)) Q) := by
  intro pins s σ H x y v u Q I rx ry h
  obtain ⟨a, b, xs, ys, rfl, rfl, ha, hb, hz, q⟩ := h
  exact op_cat pins s σ H _ _ v u Q I rx ry ⟨a, b, xs, ys, rfl, rfl, ha, hb, sz hz, q.go⟩
theorem op_repTW : OpR X (binaryOp .Mult) (fun x y H Q => ∃ l k xs, x = .ref l ∧ y = .int k ∧ H l = some (.tup xs) ∧ xs ≠ [] ∧ 2 ≤ k ∧ k ≤ 1000 ∧ xs.length ≤ 1000 ∧ rNewW H (.tup (List.replicate k.toNat xs).flatten) Q) := by
  intro pins s σ H x y v u Q I rx ry h
  obtain ⟨l, k, xs, rfl, rfl, hl, h1, h2, h3, h4, q⟩ := h
  exact op_repT pins s σ H _ _ v u Q I rx ry ⟨l, k, xs, rfl, rfl, .inl (.inl hl), h1, h2, h3, h4, q.go⟩
theorem call_list_ofW : CallR X (.type "list") (fun xs H Q => ∃ p ys, xs = [.ref p] ∧ (H p = some (.lst ys) ∨ H p = some (.tup ys)) ∧ rNewW H (.lst ys) Q) := by
  intro pins s σ H xs us Q I r h
  obtain ⟨p, ys, rfl, hp, q⟩ := h
  exact call_list_of pins s σ H _ us Q I r ⟨p, ys, rfl, hp.elim (fun h => .inl (SqL.of h)) (fun h => .inr (.inl (.inl h))), q.go⟩
theorem call_list_strW (hc : X.calm = true) : CallR X (.type "list") (fun xs H Q => ∃ z : Str, xs = [.str z] ∧ z.length ≤ 100000 ∧ rNewW H (.lst (cells z.cps.toList)) Q) := by
  intro pins s σ H xs us Q I r h
  obtain ⟨z, rfl, hz, q⟩ := h
  refine call_list_str hc pins s σ H _ us Q I r ⟨z.cps.toList, by rw [← str_sOf], ?_, q.go⟩
  rw [Array.length_toList]
  exact hz
end
section
variable {X : Cx} {es : List Expr} {t : TA} {pos : Pos}
theorem pe_tupW {x1} (h : PA X es t) : PE X (.Tuple es x1 pos) (tTupW t) := by
  refine ⟨fun pins s σ H Q I hq => ?_⟩
  refine wpAny_Tuple_spliced (thn (h.run pos pins s σ H _ I hq) fun us s1 ⟨xs, H1, I1, r, z, q⟩ => ⟨by rw [← r.length]; exact sz z, ?_⟩)
  have hf : H1 s1.heap.objs.size = none := I1.hok.fresh (Nat.le_refl _)
  refine ⟨.ref s1.heap.objs.size, upd H1 s1.heap.objs.size (.tup xs), I1.laid (t' := s1.toks) (fun b u e => Heap.get?_push_of_some _ e) (Nat.le_refl _) ?_, rfl, q _ _ hf (same_new hf) upd_same⟩
  exact ⟨sz z, us, r, ⟨_, Heap.get?_push_size _ rfl, rfl, _, rfl⟩⟩
theorem pe_lstW (h : PA X es t) : PE X (.List es pos) (tLstW t) := by
  refine ⟨fun pins s σ H Q I hq => ?_⟩
  refine wpAny_List_spliced (thn (h.run pos pins s σ H _ I hq) fun us s1 ⟨xs, H1, I1, r, z, q⟩ => ⟨by rw [← r.length]; exact sz z, ?_⟩)
  have hf : H1 s1.heap.objs.size = none := I1.hok.fresh (Nat.le_refl _)
  refine ⟨.ref s1.heap.objs.size, upd H1 s1.heap.objs.size (.lst xs), I1.laid (t' := s1.toks) (fun b u e => Heap.get?_push_of_some _ e) (Nat.le_refl _) ?_, rfl, q _ _ hf (same_new hf) upd_same⟩
  exact ⟨sz z, us, 0, r, Heap.get?_push_size _ rfl⟩
end
end Fp

set_option Elab.async false
set_option linter.all false
set_option maxRecDepth 100000
set_option maxHeartbeats 4000000
/-! Texts of bits: slices, numbers written by twos, spoils. -/
namespace Fp
open PySem L2 PyProof.Rows
theorem cutS_upto (l : List Nat) (b : Nat) : cutS (sOf l) none (some (b : Int)) = sOf (l.take b) := by
  unfold cutS
  rw [HT.sIx_nat, sOf_len, sOf_list, HT.sIx_none]
  show sOf ((l.drop 0).take (min b l.length - 0)) = _
  rw [List.drop_zero, Nat.sub_zero]
  congr 1
  by_cases h : b ≤ l.length
  · rw [Nat.min_eq_left h]
  · rw [Nat.min_eq_right (by omega), List.take_length, List.take_of_length_le (by omega)]
theorem cutS_from (l : List Nat) (a : Nat) : cutS (sOf l) (some (a : Int)) none = sOf (l.drop a) := by
  unfold cutS
  rw [HT.sIx_nat, sOf_len, sOf_list, HT.sIx_none]
  congr 1
  by_cases h : a ≤ l.length
  · rw [Nat.min_eq_left h]
    have q : (l.drop a).length ≤ l.length - a := by
      rw [List.length_drop]
      exact Nat.le_refl _
    exact congrArg _ (List.take_of_length_le q)
  · rw [Nat.min_eq_right (by omega), Nat.sub_self, List.take_zero, List.drop_eq_nil_of_le (by omega)]
/-! ### known tests -/
theorem iteD1 {p A B : Prop} [Decidable p] (h : p) (a : A) : if decide p = true then A else B := by
  rw [decide_eq_true h]
  exact iteT a
theorem iteD0 {p A B : Prop} [Decidable p] (h : ¬ p) (b : B) : if decide p = true then A else B := by
  rw [decide_eq_false h]
  exact iteF b
theorem iteN0 {p A B : Prop} [Decidable p] (h : p) (b : B) : if (!decide p) = true then A else B := by
  rw [decide_eq_true h]
  exact iteF b
theorem iteN1 {p A B : Prop} [Decidable p] (h : ¬ p) (a : A) : if (!decide p) = true then A else B := by
  rw [decide_eq_false h]
  exact iteT a
theorem vint {i j : Int} : (V.int i = V.int j) ↔ i = j := ⟨fun h => V.int.inj h, fun h => by rw [h]⟩
theorem vstr {l m : List Nat} : (V.str (sOf l) = V.str (sOf m)) ↔ l = m := ⟨fun h => sOf_inj (V.str.inj h), fun h => by rw [h]⟩
theorem vstr1 {c d : Nat} : (V.str (sOf [c]) = V.str (sOf [d])) ↔ c = d := vstr.trans ⟨fun h => by simpa using h, fun h => by rw [h]⟩
def bitN (i : Int) : Nat := if i = 0 then 48 else 49
theorem bitN_bit (i : Int) : bitN i = 48 ∨ bitN i = 49 := by
  unfold bitN
  split
  · exact .inl rfl
  · exact .inr rfl
theorem bit_at {i : Int} (h0 : 0 ≤ i) (h1 : i < 2) : atI (Str.ofString "01").cps.toList i = some (bitN i) := by
  have : i = 0 ∨ i = 1 := by omega
  rcases this with rfl | rfl <;> rfl
theorem two_len' : (Str.ofString "01").length ≤ sizeLine := by decide
theorem sOf_at {l : List Nat} {i c : Nat} (h : l[i]? = some c) : atI (sOf l).cps.toList (i : Int) = some c := by
  rw [sOf_list]
  exact atI_nat h
--PURE
/-! ### bits -/
def Bts (l : List Nat) : Prop := ∀ c ∈ l, c = 48 ∨ c = 49
theorem Bts.app {l m : List Nat} (h : Bts l) (k : Bts m) : Bts (l ++ m) := fun c hc => by
  rcases List.mem_append.mp hc with e | e
  · exact h c e
  · exact k c e
theorem Bts.nil : Bts [] := fun _ h => nomatch h
theorem Bts.take {l : List Nat} (h : Bts l) (n : Nat) : Bts (l.take n) := fun c hc => h c (List.mem_of_mem_take hc)
theorem Bts.drop {l : List Nat} (h : Bts l) (n : Nat) : Bts (l.drop n) := fun c hc => h c (List.mem_of_mem_drop hc)
theorem Bts.one {c : Nat} (h : c = 48 ∨ c = 49) : Bts [c] := fun x hx => by
  rw [List.mem_singleton.mp hx]
  exact h
theorem Bts.rep {n c : Nat} (hc : c = 48 ∨ c = 49) : Bts (List.replicate n c) := fun x hx => by
  rw [(List.mem_replicate.mp hx).2]
  exact hc
theorem Bts.at {l : List Nat} (h : Bts l) {i c : Nat} (e : l[i]? = some c) : c = 48 ∨ c = 49 := h c (List.mem_of_getElem? e)
/-- a number by twos, m signs -/
def wrB (n m : Nat) : List Nat := (List.range m).map fun j => 48 + n / 2 ^ (m - 1 - j) % 2
theorem wrB_len (n m : Nat) : (wrB n m).length = m := by
  unfold wrB
  rw [List.length_map, List.length_range]
theorem wrB_bts (n m : Nat) : Bts (wrB n m) := fun c hc => by
  unfold wrB at hc
  obtain ⟨j, _, rfl⟩ := List.mem_map.mp hc
  omega
/-! ### spoils -/
inductive Spl where
  | turn (n : Nat)
  | lose (n : Nat)
  | put (n b : Nat)
def flipB (c : Nat) : Nat := if c = 49 then 48 else 49
def once (l : List Nat) : Spl → List Nat
  | .put n b => if n ≤ l.length then l.take n ++ b :: l.drop n else l
  | .turn n => if n < l.length then l.take n ++ flipB ((l[n]?).getD 0) :: l.drop (n + 1) else l
  | .lose n => if n < l.length then l.take n ++ l.drop (n + 1) else l
def spoilL (l : List Nat) (sps : List Spl) : List Nat := sps.foldl once l
def plc : Spl → Nat
  | .put n _ => n
  | .turn n => n
  | .lose n => n
/-- what the sign x at the place i becomes -/
def stepA (sp : Spl) (i : Nat) : List Nat := match sp with
  | .put n b => if i = n then [b] else []
  | _ => []
def stepB (sp : Spl) (i x : Nat) : List Nat := match sp with
  | .put _ _ => [x]
  | .turn n => if i = n then [flipB x] else [x]
  | .lose n => if i = n then [] else [x]
/-- place by place -/
def walkS (sp : Spl) : List Nat → Nat → List Nat
  | [], i => stepA sp i
  | x :: r, i => stepA sp i ++ stepB sp i x ++ walkS sp r (i + 1)
theorem walk_past (sp : Spl) : ∀ (l : List Nat) (i : Nat), plc sp < i → walkS sp l i = l
  | [], i, h => by
    cases sp with
    | put n b => show (if i = n then [b] else []) = []; rw [if_neg (by show ¬ i = n; have : n < i := h; omega)]
    | turn n => rfl
    | lose n => rfl
  | x :: r, i, h => by
    have ih := walk_past sp r (i + 1) (by omega)
    unfold walkS
    rw [ih]
    cases sp with
    | put n b =>
      have : n < i := h
      show (if i = n then [b] else []) ++ [x] ++ r = x :: r
      rw [if_neg (by omega)]
      rfl
    | turn n =>
      have : n < i := h
      show [] ++ (if i = n then [flipB x] else [x]) ++ r = x :: r
      rw [if_neg (by omega)]
      rfl
    | lose n =>
      have : n < i := h
      show [] ++ (if i = n then [] else [x]) ++ r = x :: r
      rw [if_neg (by omega)]
      rfl
def shift (sp : Spl) (i : Nat) : Spl := match sp with
  | .put n b => .put (n - i) b
  | .turn n => .turn (n - i)
  | .lose n => .lose (n - i)
theorem walk_once (sp : Spl) : ∀ (l : List Nat) (i : Nat), i ≤ plc sp → walkS sp l i = once l (shift sp i)
  | [], i, h => by
    cases sp with
    | put n b =>
      have : i ≤ n := h
      show (if i = n then [b] else []) = if n - i ≤ 0 then [].take (n - i) ++ b :: [].drop (n - i) else []
      by_cases e : i = n
      · rw [if_pos e, if_pos (by omega)]
        simp
      · rw [if_neg e, if_neg (by omega)]
    | turn n => rfl
    | lose n => rfl
  | x :: r, i, h => by
    unfold walkS
    by_cases e : i = plc sp
    · rw [walk_past sp r (i + 1) (by omega)]
      cases sp with
      | put n b =>
        have e : i = n := e
        subst e
        show (if i = i then [b] else []) ++ [x] ++ r = if i - i ≤ (x :: r).length then (x :: r).take (i - i) ++ b :: (x :: r).drop (i - i) else x :: r
        rw [if_pos rfl, Nat.sub_self, if_pos (Nat.zero_le _)]
        rfl
      | turn n =>
        have e : i = n := e
        subst e
        show [] ++ (if i = i then [flipB x] else [x]) ++ r = if i - i < (x :: r).length then (x :: r).take (i - i) ++ flipB (((x :: r)[i - i]?).getD 0) :: (x :: r).drop (i - i + 1) else x :: r
        rw [if_pos rfl, Nat.sub_self, if_pos (by rw [List.length_cons]; exact Nat.succ_pos _)]
        rfl
      | lose n =>
        have e : i = n := e
        subst e
        show [] ++ (if i = i then [] else [x]) ++ r = if i - i < (x :: r).length then (x :: r).take (i - i) ++ (x :: r).drop (i - i + 1) else x :: r
        rw [if_pos rfl, Nat.sub_self, if_pos (by rw [List.length_cons]; exact Nat.succ_pos _)]
        rfl
    · have lt : i + 1 ≤ plc sp := by omega
      rw [walk_once sp r (i + 1) lt]
      cases sp with
      | put n b =>
        have lt : i + 1 ≤ n := lt
        obtain ⟨k, rfl⟩ : ∃ k, n = i + 1 + k := ⟨n - (i + 1), by omega⟩
        show (if i = i + 1 + k then [b] else []) ++ [x] ++ (if i + 1 + k - (i + 1) ≤ r.length then r.take (i + 1 + k - (i + 1)) ++ b :: r.drop (i + 1 + k - (i + 1)) else r) = if i + 1 + k - i ≤ (x :: r).length then (x :: r).take (i + 1 + k - i) ++ b :: (x :: r).drop (i + 1 + k - i) else x :: r
        rw [if_neg (by omega), show i + 1 + k - (i + 1) = k by omega, show i + 1 + k - i = k + 1 by omega, List.length_cons]
        by_cases q : k ≤ r.length
        · rw [if_pos q, if_pos (by omega)]
          rfl
        · rw [if_neg q, if_neg (by omega)]
          rfl
      | turn n =>
        have lt : i + 1 ≤ n := lt
        obtain ⟨k, rfl⟩ : ∃ k, n = i + 1 + k := ⟨n - (i + 1), by omega⟩
        show [] ++ (if i = i + 1 + k then [flipB x] else [x]) ++ (if i + 1 + k - (i + 1) < r.length then r.take (i + 1 + k - (i + 1)) ++ flipB ((r[i + 1 + k - (i + 1)]?).getD 0) :: r.drop (i + 1 + k - (i + 1) + 1) else r) = if i + 1 + k - i < (x :: r).length then (x :: r).take (i + 1 + k - i) ++ flipB (((x :: r)[i + 1 + k - i]?).getD 0) :: (x :: r).drop (i + 1 + k - i + 1) else x :: r
        rw [if_neg (by omega), show i + 1 + k - (i + 1) = k by omega, show i + 1 + k - i = k + 1 by omega, List.length_cons]
        by_cases q : k < r.length
        · rw [if_pos q, if_pos (by omega)]
          rfl
        · rw [if_neg q, if_neg (by omega)]
          rfl
      | lose n =>
        have lt : i + 1 ≤ n := lt
        obtain ⟨k, rfl⟩ : ∃ k, n = i + 1 + k := ⟨n - (i + 1), by omega⟩
        show [] ++ (if i = i + 1 + k then [] else [x]) ++ (if i + 1 + k - (i + 1) < r.length then r.take (i + 1 + k - (i + 1)) ++ r.drop (i + 1 + k - (i + 1) + 1) else r) = if i + 1 + k - i < (x :: r).length then (x :: r).take (i + 1 + k - i) ++ (x :: r).drop (i + 1 + k - i + 1) else x :: r
        rw [if_neg (by omega), show i + 1 + k - (i + 1) = k by omega, show i + 1 + k - i = k + 1 by omega, List.length_cons]
        by_cases q : k < r.length
        · rw [if_pos q, if_pos (by omega)]
          rfl
        · rw [if_neg q, if_neg (by omega)]
          rfl
theorem walk_is (sp : Spl) (l : List Nat) : walkS sp l 0 = once l sp := by
  rw [walk_once sp l 0 (Nat.zero_le _)]
  cases sp <;> rfl
theorem once_len (l : List Nat) (sp : Spl) : (once l sp).length ≤ l.length + 1 := by
  cases sp with
  | put n b =>
    show (if n ≤ l.length then l.take n ++ b :: l.drop n else l).length ≤ _
    split
    · rw [List.length_append, List.length_cons, List.length_take, List.length_drop]
      omega
    · omega
  | turn n =>
    show (if n < l.length then l.take n ++ flipB ((l[n]?).getD 0) :: l.drop (n + 1) else l).length ≤ _
    split
    · rw [List.length_append, List.length_cons, List.length_take, List.length_drop]
      omega
    · omega
  | lose n =>
    show (if n < l.length then l.take n ++ l.drop (n + 1) else l).length ≤ _
    split
    · rw [List.length_append, List.length_take, List.length_drop]
      omega
    · omega
def BitS : Spl → Prop
  | .put _ b => b = 48 ∨ b = 49
  | _ => True
theorem flipB_bit (c : Nat) : flipB c = 48 ∨ flipB c = 49 := by
  unfold flipB
  split
  · exact .inl rfl
  · exact .inr rfl
theorem once_bts {l : List Nat} {sp : Spl} (h : Bts l) (hs : BitS sp) : Bts (once l sp) := by
  cases sp with
  | put n b =>
    show Bts (if n ≤ l.length then l.take n ++ b :: l.drop n else l)
    split
    · exact (h.take n).app (fun c hc => by
        rcases List.mem_cons.mp hc with e | e
        · rw [e]; exact hs
        · exact h.drop n c e)
    · exact h
  | turn n =>
    show Bts (if n < l.length then l.take n ++ flipB ((l[n]?).getD 0) :: l.drop (n + 1) else l)
    split
    · exact (h.take n).app (fun c hc => by
        rcases List.mem_cons.mp hc with e | e
        · rw [e]; exact flipB_bit _
        · exact h.drop _ c e)
    · exact h
  | lose n =>
    show Bts (if n < l.length then l.take n ++ l.drop (n + 1) else l)
    split
    · exact (h.take n).app (h.drop _)
    · exact h
end Fp

set_option Elab.async false
set_option linter.all false
set_option maxRecDepth 100000
set_option maxHeartbeats 4000000
/-! The laws' bags of four numbers; texts times an int. -/
namespace Fp
open PySem L2 PyProof.Rows
def Bag4 (H : Hp) (b : Addr) : Prop := ∃ g s p k : Int, H b = some (.lst [.int g, .int s, .int p, .int k]) ∧ 0 ≤ g ∧ 0 ≤ s ∧ s < 2147483648 ∧ 0 < p ∧ p < 2147483648
def Bx4 (b : Addr) (H H' : Hp) : Prop := Bag4 H' b ∧ ∀ a o, a ≠ b → H a = some o → H' a = some o
theorem Bx4.refl {b : Addr} {H : Hp} (h : Bag4 H b) : Bx4 b H H := ⟨h, fun _ _ _ e => e⟩
theorem Bx4.trans {b : Addr} {H H1 H2 : Hp} (x : Bx4 b H H1) (y : Bx4 b H1 H2) : Bx4 b H H2 := ⟨y.1, fun a o n e => y.2 a o n (x.2 a o n e)⟩
theorem Bx4.drawn {b : Addr} {H : Hp} {g s p k : Int} (g0 : 0 ≤ g) (s0 : 0 ≤ s) (s1 : s < 2147483648) (p0 : 0 < p) (p1 : p < 2147483648) : Bx4 b H (upd H b (.lst [.int g, .int s, .int p, .int k])) := ⟨⟨g, s, p, k, upd_same, g0, s0, s1, p0, p1⟩, fun a o n e => by
  rw [upd_ne n]
  exact e⟩
theorem Bx4.same {b : Addr} {H H1 H2 : Hp} (x : Bx4 b H H1) (y : Same H1 H2) : Bx4 b H H2 := by
  obtain ⟨⟨g, s, p, k, h, r⟩, m⟩ := x
  exact ⟨⟨g, s, p, k, y _ _ h, r⟩, fun a o n e => y _ _ (m a o n e)⟩
theorem Bx4.back {b : Addr} {H0 H H' : Hp} (x : Bx4 b H H') (y : Same H0 H) (n : H0 b = none) : Same H0 H' := fun a o e => x.2 a o (ne_of_none e n) (y a o e)
theorem Bx4.mut {b p : Addr} {H H' : Hp} {o : HO} (x : Bx4 b H H') (hp : H p = none) (n : p ≠ b) : Bx4 b H (upd H' p o) := by
  obtain ⟨⟨g, s, r, k, h, c⟩, m⟩ := x
  refine ⟨⟨g, s, r, k, by rw [upd_ne n.symm]; exact h, c⟩, fun a u z e => ?_⟩
  rw [upd_ne (ne_of_none e hp)]
  exact m a u z e
theorem Bag4.ne {H : Hp} {b p : Addr} (h : Bag4 H b) (n : H p = none) : p ≠ b := by
  obtain ⟨g, s, r, k, e, _⟩ := h
  exact (ne_of_none e n).symm
theorem Bx4.free {b p : Addr} {H H' : Hp} (x : Bx4 b H H') (h : H' p = none) : H p = none := by
  have n : p ≠ b := x.1.ne h
  cases q : H p with
  | none => rfl
  | some o =>
    rw [x.2 p o n q] at h
    cases h
theorem Bag4.tup {H : Hp} {b a : Addr} {xs : List V} (h : Bag4 H b) (e : H a = some (.tup xs)) : a ≠ b := fun z => by
  obtain ⟨g, s, r, k, e2, _⟩ := h
  rw [z, e2] at e
  cases e
theorem mul_list (l : List Nat) (n : Int) (h : 0 ≤ n) : Txt.mul (sOf l) n = sOf (List.replicate n.toNat l).flatten := by
  obtain ⟨k, rfl⟩ := Int.eq_ofNat_of_zero_le h
  apply of_list
  unfold Txt.mul
  have main : ∀ (k : Nat) (acc : Array Nat), (List.foldl (· ++ ·) acc (List.replicate k (sOf l).cps)).toList = acc.toList ++ (List.replicate k l).flatten := by
    intro k
    induction k with
    | zero => intro acc; simp
    | succ k ih =>
      intro acc
      rw [List.replicate_succ, List.foldl_cons, ih, List.replicate_succ, List.flatten_cons]
      simp [sOf]
  split
  · have : k = 0 := by omega
    subst this
    rfl
  · split
    · rename_i _ e
      rw [sOf_list, Int.toNat_natCast]
      simp only [Bool.or_eq_true, beq_iff_eq] at e
      rcases e with e | e
      · have : k = 1 := by omega
        subst this
        simp
      · rw [sOf_len] at e
        have : l = [] := List.length_eq_zero_iff.mp e
        subst this
        simp
    · rw [Int.toNat_natCast]
      have := main k #[]
      simpa using this
section
variable {X : Cx}
theorem op_mulT : OpR X (binaryOp .Mult) (fun x y H Q => ∃ (l : List Nat) (n : Int), x = .str (sOf l) ∧ y = .int n ∧ (0 ≤ n ∧ n ≤ 10000 ∧ l.length ≤ 1000) ∧ Q (.str (sOf (List.replicate n.toNat l).flatten)) H) := by
  intro pins s σ H x y v u Q I rx ry h
  obtain ⟨l, n, rfl, rfl, hz, q⟩ := h
  obtain ⟨t, rfl⟩ := rx
  obtain ⟨t', rfl⟩ := ry
  refine SB.mul (mulOk_of 1000 10000 (by rw [sOf_len]; exact hz.2.2) (by omega) (by omega) (by decide) (by decide)) fun t' k => ?_
  rw [mul_list l n hz.1]
  exact ⟨.str _, H, I.tok _, ⟨_, rfl⟩, q⟩
end
theorem flat_len {l : List Nat} (n : Nat) : (List.replicate n l).flatten.length = n * l.length := by
  induction n with
  | zero => simp
  | succ k ih => rw [List.replicate_succ, List.flatten_cons, List.length_append, ih, Nat.succ_mul]; omega
theorem flat_bts {l : List Nat} (h : Bts l) (n : Nat) : Bts (List.replicate n l).flatten := fun c hc => by
  obtain ⟨m, hm, hc⟩ := List.mem_flatten.mp hc
  rw [(List.mem_replicate.mp hm).2] at hc
  exact h c hc
theorem str_bit (k : Nat) (h : k < 2) : (toString ((k : Nat) : Int) : Str) = sOf [48 + k] := by
  have : k = 0 ∨ k = 1 := by omega
  rcases this with rfl | rfl <;> decide +kernel
/-- texts joined by nothing -/
theorem join_flat : ∀ ls : List (List Nat), Txt.join (Str.ofString "") (ls.map sOf) = sOf ls.flatten := by
  intro ls
  show Builtin.Str.glued (Str.ofString "") (ls.map sOf) = sOf ls.flatten
  rw [StrLaws.glued_eq_join]
  induction ls with
  | nil => rfl
  | cons c r ih =>
    cases r with
    | nil =>
      show sOf c = sOf [c].flatten
      simp
    | cons d r =>
      show sOf c ++ Str.ofString "" ++ Str.join (Str.ofString "") (List.map sOf (d :: r)) = sOf (c :: d :: r).flatten
      rw [ih, show (Str.ofString "") = sOf [] from rfl, sOf_app, sOf_app, List.append_nil]
      rfl
theorem lens_sum (ls : List (List Nat)) : ((ls.map sOf).map (·.length)).sum = ls.flatten.length := by
  induction ls with
  | nil => rfl
  | cons c r ih =>
    rw [List.map_cons, List.map_cons, List.sum_cons, ih, sOf_len, List.flatten_cons, List.length_append]
theorem join_flat_size {ls : List (List Nat)} (h : ls.flatten.length ≤ 100000) : ((ls.map sOf).map (·.length)).sum + (ls.map sOf).length * (Str.ofString "").length ≤ 16777216 := by
  rw [lens_sum, show (Str.ofString "").length = 0 from rfl]
  omega
theorem sV_strs (ls : List (List Nat)) : ls.map sV = (ls.map sOf).map V.str := by
  rw [List.map_map]
  rfl
theorem flatten_snoc {ls : List (List Nat)} {l : List Nat} : (ls ++ [l]).flatten = ls.flatten ++ l := by simp
end Fp

set_option Elab.async false
set_option linter.all false
set_option maxRecDepth 100000
set_option maxHeartbeats 4000000
/-! Marks: where they stand, and how they are found. -/
namespace Fp
open PySem L2 PyProof.Rows
--PURE
def mkL : List Nat := [48, 48, 48, 48, 48, 48, 48, 48, 48, 48, 48, 49]
/-- a mark begins at p -/
def occ (l : List Nat) (p : Nat) : Bool := (l.drop p).take 12 == mkL
theorem occ_get {l : List Nat} {p : Nat} (h : occ l p = true) : p + 12 ≤ l.length ∧ (∀ i, i < 11 → l[p + i]? = some 48) ∧ l[p + 11]? = some 49 := by
  have e : (l.drop p).take 12 = mkL := eq_of_beq h
  have ln := congrArg List.length e
  rw [List.length_take, List.length_drop] at ln
  have ln : min 12 (l.length - p) = 12 := ln
  have at_ : ∀ i, i < 12 → l[p + i]? = mkL[i]? := fun i hi => by
    rw [← e, List.getElem?_take_of_lt hi, List.getElem?_drop]
  refine ⟨by omega, fun i hi => ?_, by rw [at_ 11 (by decide)]; rfl⟩
  rw [at_ i (by omega)]
  have : ∀ i : Nat, i < 11 → mkL[i]? = some 48 := by decide
  exact this i hi
theorem occ_of {l : List Nat} {p : Nat} (h0 : ∀ i, i < 11 → l[p + i]? = some 48) (h1 : l[p + 11]? = some 49) : occ l p = true := by
  refine beq_iff_eq.mpr ?_
  apply List.ext_getElem?
  intro i
  by_cases hi : i < 12
  · rw [List.getElem?_take_of_lt hi, List.getElem?_drop]
    by_cases z : i < 11
    · rw [h0 i z]
      have : ∀ i : Nat, i < 11 → mkL[i]? = some 48 := by decide
      rw [this i z]
    · have : i = 11 := by omega
      rw [this, h1]
      rfl
  · rw [List.getElem?_eq_none (by rw [List.length_take]; omega), List.getElem?_eq_none (by show 12 ≤ i; omega)]
/-- two marks don't share a sign -/
theorem occ_apart {l : List Nat} {p q : Nat} (h : occ l p = true) (h2 : occ l q = true) (lt : p < q) : p + 12 ≤ q := by
  by_cases z : p + 12 ≤ q
  · exact z
  · obtain ⟨_, _, a⟩ := occ_get h
    obtain ⟨_, b, _⟩ := occ_get h2
    have := b (p + 11 - q) (by omega)
    rw [show q + (p + 11 - q) = p + 11 by omega, a] at this
    cases this
def occs (l : List Nat) (s : Nat) : List Nat := (List.range s).filter (occ l)
theorem occs_none {l : List Nat} {s t : Nat} (h : s ≤ t) (hn : ∀ v, s ≤ v → v < t → occ l v = false) : occs l t = occs l s := by
  obtain ⟨k, rfl⟩ : ∃ k, t = s + k := ⟨t - s, by omega⟩
  induction k with
  | zero => rfl
  | succ k ih =>
    have h1 := ih (by omega) (fun v a b => hn v a (by omega))
    unfold occs at h1 ⊢
    rw [← Nat.add_assoc, List.range_succ, List.filter_append, h1]
    have : occ l (s + k) = false := hn _ (by omega) (by omega)
    simp [this]
theorem occs_one {l : List Nat} {s k : Nat} (h : s ≤ k) (hk : occ l k = true) (hn : ∀ v, s ≤ v → v < k → occ l v = false) : occs l (k + 12) = occs l s ++ [k] := by
  have h1 : occs l (k + 1) = occs l s ++ [k] := by
    have := occs_none h hn
    unfold occs at this ⊢
    rw [List.range_succ, List.filter_append, this]
    simp [hk]
  rw [← h1]
  refine occs_none (by omega) fun v a b => ?_
  cases z : occ l v with
  | false => rfl
  | true => exact absurd (occ_apart hk z (by omega)) (by omega)
theorem occs_end {l : List Nat} {s : Nat} (hn : ∀ v, s ≤ v → occ l v = false) (t : Nat) (h : s ≤ t) : occs l t = occs l s := occs_none h fun v a _ => hn v a
theorem occ_far {l : List Nat} {v : Nat} (h : l.length < v + 12) : occ l v = false := by
  cases z : occ l v with
  | false => rfl
  | true => exact absurd (occ_get z).1 (by omega)
/-- the ends of all marks -/
def endsL (l : List Nat) : List Nat := (occs l l.length).map (· + 12)
theorem occs_len (l : List Nat) (s : Nat) : (occs l s).length ≤ s := by
  unfold occs
  have := List.length_filter_le (occ l) (List.range s)
  rw [List.length_range] at this
  exact this
theorem occ_iff {l : List Nat} {i : Nat} : occ l i = true ↔ (l[i + 11]? = some 49 ∧ (l.drop i).take 11 = List.replicate 11 48) := by
  constructor
  · intro h
    obtain ⟨a, b, c⟩ := occ_get h
    refine ⟨c, ?_⟩
    apply List.ext_getElem?
    intro j
    by_cases hj : j < 11
    · rw [List.getElem?_take_of_lt hj, List.getElem?_drop, b j hj, List.getElem?_replicate, if_pos hj]
    · rw [List.getElem?_eq_none (by rw [List.length_take]; omega), List.getElem?_eq_none (by rw [List.length_replicate]; omega)]
  · rintro ⟨h1, h2⟩
    refine occ_of (fun j hj => ?_) h1
    have : ((l.drop i).take 11)[j]? = some 48 := by rw [h2, List.getElem?_replicate, if_pos hj]
    rw [List.getElem?_take_of_lt hj, List.getElem?_drop] at this
    exact this
--END
theorem cutS_mid (l : List Nat) (a b : Nat) (h : a ≤ b) : cutS (sOf l) (some (a : Int)) (some (b : Int)) = sOf ((l.drop a).take (b - a)) := by
  unfold cutS
  rw [HT.sIx_nat, HT.sIx_nat, sOf_len, sOf_list]
  show sOf _ = sOf _
  congr 1
  by_cases h1 : a ≤ l.length
  · rw [Nat.min_eq_left h1]
    by_cases h2 : b ≤ l.length
    · rw [Nat.min_eq_left h2]
    · have q : (l.drop a).length = l.length - a := List.length_drop ..
      rw [Nat.min_eq_right (by omega), List.take_of_length_le (by omega), List.take_of_length_le (by omega)]
  · rw [Nat.min_eq_right (by omega), Nat.min_eq_right (by omega), List.drop_eq_nil_of_le (by omega), List.drop_eq_nil_of_le (by omega), List.take_nil, List.take_nil]
theorem at_occ {l : List Nat} {i : Nat} : StrLaws.At (sOf l) (sOf mkL) (sOf l).length i ↔ occ l i = true := by
  unfold StrLaws.At
  rw [StrLaws.subAt_eq, sOf_list, sOf_list, sOf_len, sOf_len]
  constructor
  · exact fun h => h.2
  · exact fun h => ⟨(occ_get h).1, h⟩
theorem find_occ (l : List Nat) (s : Nat) : (Txt.find3 (sOf l) (sOf mkL) (s : Int) < 0 ∧ ∀ v, s ≤ v → occ l v = false) ∨ ∃ k : Nat, Txt.find3 (sOf l) (sOf mkL) (s : Int) = (k : Int) ∧ s ≤ k ∧ occ l k = true ∧ ∀ v, s ≤ v → v < k → occ l v = false := by
  have e : PySem.fromIndex (sOf l).length (s : Int) = s := by
    unfold PySem.fromIndex
    rw [if_neg (by omega)]
    omega
  have nb : ∀ {v}, ¬ StrLaws.At (sOf l) (sOf mkL) (sOf l).length v → occ l v = false := fun {v} h => by
    cases z : occ l v with
    | false => rfl
    | true => exact absurd (at_occ.mpr z) h
  unfold Txt.find3
  rw [e]
  rcases StrLaws.occ_head_from (sOf l) (sOf mkL) s 1 (Nat.le_refl _) with ⟨h0, hn⟩ | ⟨k, r, h0, hlo, hk, hn⟩
  · rw [h0]
    exact .inl ⟨by show (-1 : Int) < 0; decide, fun v hv => nb (hn v hv)⟩
  · rw [h0]
    exact .inr ⟨k, rfl, hlo, at_occ.mp hk, fun v a b => nb (hn v a b)⟩
end Fp

set_option Elab.async false
set_option linter.all false
set_option maxRecDepth 100000
set_option maxHeartbeats 4000000
/-! Stretches between marks. -/
namespace Fp
open PySem L2 PyProof.Rows
--PURE
def emp (st : List Nat) : Bool := decide (st = 49 :: (List.replicate (st.length - 2) 48 ++ [49]))
theorem st_split {st : List Nat} (h2 : 2 ≤ st.length) (hl : st[st.length - 1]? = some 49) : ∃ x mid, st = x :: (mid ++ [49]) := by
  cases st with
  | nil => exact absurd h2 (by decide)
  | cons x r =>
    have hr : r ≠ [] := fun e => by
      rw [e] at h2
      exact absurd h2 (by show ¬ 2 ≤ 1; decide)
    refine ⟨x, r.dropLast, ?_⟩
    congr 1
    have e := (List.dropLast_concat_getLast hr).symm
    have e2 : r.getLast hr = 49 := by
      rw [List.length_cons, Nat.add_sub_cancel] at hl
      rw [List.getLast_eq_getElem]
      have hr2 : 0 < r.length := List.length_pos_iff.mpr hr
      obtain ⟨k, hk⟩ : ∃ k, r.length = k + 1 := ⟨r.length - 1, by omega⟩
      rw [hk, List.getElem?_cons_succ] at hl
      have hlt : r.length - 1 < r.length := by omega
      have : r[r.length - 1]? = some 49 := by rw [show r.length - 1 = k by omega]; exact hl
      rw [List.getElem?_eq_getElem hlt] at this
      exact Option.some.inj this
    rw [e2] at e
    exact e
theorem emp_iff {st : List Nat} (hb : ∀ c ∈ st, c = 48 ∨ c = 49) (h2 : 2 ≤ st.length) (hl : st[st.length - 1]? = some 49) : emp st = true ↔ (st[0]? = some 49 ∧ 49 ∉ (st.drop 1).take (st.length - 2)) := by
  obtain ⟨x, mid, rfl⟩ := st_split h2 hl
  have ln : (x :: (mid ++ [49])).length - 2 = mid.length := by
    rw [List.length_cons, List.length_append]
    rfl
  have md : ((x :: (mid ++ [49])).drop 1).take ((x :: (mid ++ [49])).length - 2) = mid := by
    rw [ln]
    show (mid ++ [49]).take mid.length = mid
    rw [List.take_append_of_le_length (Nat.le_refl _), List.take_length]
  rw [md]
  unfold emp
  rw [ln, decide_eq_true_iff]
  constructor
  · intro e
    have e1 := List.cons.inj e
    refine ⟨by rw [e1.1]; rfl, fun hm => ?_⟩
    have e3 : mid = List.replicate mid.length 48 := List.append_cancel_right e1.2
    rw [e3] at hm
    have := (List.mem_replicate.mp hm).2
    cases this
  · rintro ⟨e1, e2⟩
    have hx : x = 49 := Option.some.inj e1
    subst hx
    congr 2
    refine List.eq_replicate_iff.mpr ⟨rfl, fun c hc => ?_⟩
    rcases hb c (List.mem_cons_of_mem _ (List.mem_append_left _ hc)) with z | z
    · exact z
    · exact absurd (z ▸ hc) e2
/-- two ends, one behind the other -/
def sttL (l : List Nat) : List (List Nat) := (List.range ((endsL l).length - 1)).map fun i => (l.drop ((endsL l).getD i 0)).take ((endsL l).getD (i + 1) 0 - (endsL l).getD i 0)
def E2 (F : List (List Nat)) (a : Nat) : Prop := emp (F.getD (a - 1) []) = true ∧ emp (F.getD a []) = true
def StrR (F F' : List (List Nat)) (b : Bool) : Prop := (b = true ∧ ∃ a, 1 ≤ a ∧ a < F.length ∧ E2 F a ∧ (∀ a', 1 ≤ a' → a' < a → ¬ E2 F a') ∧ F' = F.take (a - 1)) ∨ (b = false ∧ (∀ a, 1 ≤ a → a < F.length → ¬ E2 F a) ∧ F' = F)
theorem StrR.uniq {F F1 F2 : List (List Nat)} {b1 b2 : Bool} (h1 : StrR F F1 b1) (h2 : StrR F F2 b2) : F1 = F2 ∧ b1 = b2 := by
  rcases h1 with ⟨rfl, a, a1, a2, a3, a4, rfl⟩ | ⟨rfl, n1, rfl⟩
  · rcases h2 with ⟨rfl, c, c1, c2, c3, c4, rfl⟩ | ⟨rfl, n2, rfl⟩
    · have : a = c := by
        by_cases x : a < c
        · exact absurd a3 (c4 a a1 x)
        · by_cases y : c < a
          · exact absurd c3 (a4 c c1 y)
          · omega
      subst this
      exact ⟨rfl, rfl⟩
    · exact absurd a3 (n2 a a1 a2)
  · rcases h2 with ⟨rfl, c, c1, c2, c3, c4, rfl⟩ | ⟨rfl, n2, rfl⟩
    · exact absurd c3 (n1 c c1 c2)
    · exact ⟨rfl, rfl⟩
theorem occs_sorted (l : List Nat) (s : Nat) : (occs l s).Pairwise (· < ·) := by
  unfold occs
  exact List.Pairwise.filter _ List.pairwise_lt_range
theorem ends_at {l : List Nat} {i : Nat} (h : i < (endsL l).length) : ∃ p, (occs l l.length)[i]? = some p ∧ (endsL l).getD i 0 = p + 12 ∧ occ l p = true ∧ p + 12 ≤ l.length := by
  have hi : i < (occs l l.length).length := by
    unfold endsL at h
    rw [List.length_map] at h
    exact h
  have hm := List.getElem_mem hi
  have hocc : occ l (occs l l.length)[i] = true := by
    unfold occs at hm
    exact (List.mem_filter.mp hm).2
  refine ⟨(occs l l.length)[i], List.getElem?_eq_getElem hi, ?_, hocc, (occ_get hocc).1⟩
  unfold endsL
  rw [List.getD_eq_getElem?_getD, List.getElem?_map, List.getElem?_eq_getElem hi]
  rfl
/-- a stretch is long enough, and ends with a mark -/
theorem str_at {l : List Nat} {i : Nat} (h : i + 1 < (endsL l).length) : (endsL l).getD i 0 + 12 ≤ (endsL l).getD (i + 1) 0 ∧ (endsL l).getD (i + 1) 0 ≤ l.length ∧ ((sttL l).getD i []).length = (endsL l).getD (i + 1) 0 - (endsL l).getD i 0 ∧ ((sttL l).getD i [])[((sttL l).getD i []).length - 1]? = some 49 ∧ (sttL l)[i]? = some ((l.drop ((endsL l).getD i 0)).take ((endsL l).getD (i + 1) 0 - (endsL l).getD i 0)) := by
  obtain ⟨p, hp, ep, op, lp⟩ := ends_at (show i < (endsL l).length by omega)
  obtain ⟨r, hr, er, or_, lr⟩ := ends_at h
  have lt : p < r := by
    have := List.pairwise_iff_getElem.mp (occs_sorted l l.length) i (i + 1) (List.getElem?_eq_some_iff.mp hp).1 (List.getElem?_eq_some_iff.mp hr).1 (by omega)
    rw [List.getElem?_eq_getElem (List.getElem?_eq_some_iff.mp hp).1] at hp
    rw [List.getElem?_eq_getElem (List.getElem?_eq_some_iff.mp hr).1] at hr
    rw [← Option.some.inj hp, ← Option.some.inj hr]
    exact this
  have ap := occ_apart op or_ lt
  have e5 : (sttL l)[i]? = some ((l.drop ((endsL l).getD i 0)).take ((endsL l).getD (i + 1) 0 - (endsL l).getD i 0)) := by
    unfold sttL
    rw [List.getElem?_map, List.getElem?_range (by omega)]
    rfl
  have e6 : (sttL l).getD i [] = (l.drop ((endsL l).getD i 0)).take ((endsL l).getD (i + 1) 0 - (endsL l).getD i 0) := by
    rw [List.getD_eq_getElem?_getD, e5]
    rfl
  have e7 : ((sttL l).getD i []).length = (endsL l).getD (i + 1) 0 - (endsL l).getD i 0 := by
    rw [e6, List.length_take, List.length_drop]
    omega
  refine ⟨by omega, by omega, e7, ?_, e5⟩
  rw [e7, e6, List.getElem?_take_of_lt (by omega), List.getElem?_drop, ep, er]
  have := (occ_get or_).2.2
  rw [show p + 12 + (r + 12 - (p + 12) - 1) = r + 11 by omega]
  exact this
theorem sttL_len (l : List Nat) : (sttL l).length = (endsL l).length - 1 := by
  unfold sttL
  rw [List.length_map, List.length_range]
--END
theorem cutS_mid1 {l : List Nat} (h : 2 ≤ l.length) : cutS (sOf l) (some 1) (some (-1)) = sOf ((l.drop 1).take (l.length - 2)) := by
  unfold cutS
  rw [show HT.sIx (sOf l).length 0 (some 1) = min 1 (sOf l).length from HT.sIx_nat _ _ 1, sOf_len, sOf_list, Nat.min_eq_left (by omega)]
  show sOf ((l.drop 1).take ((-1 + (l.length : Int)).toNat - 1)) = _
  rw [show (-1 + (l.length : Int)).toNat - 1 = l.length - 2 by omega]
end Fp

set_option Elab.async false
set_option linter.all false
set_option maxRecDepth 100000
set_option maxHeartbeats 4000000
/-! Noughts that stand together. -/
namespace Fp
open PySem L2 PyProof.Rows
--PURE
def tz (t c : Nat) : Nat := if c = 48 then t + 1 else 0
def trail (t : Nat) (l : List Nat) : Nat := l.foldl tz t
/-- the most noughts together, with t of them ahead -/
def mxZ : Nat → List Nat → Nat
  | t, [] => t
  | t, c :: r => max t (mxZ (tz t c) r)
/-- ones with eleven noughts ahead -/
def cntM : Nat → List Nat → Nat
  | _, [] => 0
  | t, c :: r => (if c = 49 ∧ 11 ≤ t then 1 else 0) + cntM (tz t c) r
theorem tz_mono {t u : Nat} (h : t ≤ u) (c : Nat) : tz t c ≤ tz u c := by
  unfold tz
  split <;> omega
theorem trail_mono {t u : Nat} (l : List Nat) (h : t ≤ u) : trail t l ≤ trail u l := by
  induction l generalizing t u with
  | nil => exact h
  | cons c r ih => exact ih (tz_mono h c)
theorem mxZ_mono {t u : Nat} (l : List Nat) (h : t ≤ u) : mxZ t l ≤ mxZ u l := by
  induction l generalizing t u with
  | nil => exact h
  | cons c r ih =>
    have := ih (tz_mono h c)
    show max t (mxZ (tz t c) r) ≤ max u (mxZ (tz u c) r)
    omega
theorem trail_app (t : Nat) (a b : List Nat) : trail t (a ++ b) = trail (trail t a) b := by
  unfold trail
  rw [List.foldl_append]
theorem mxZ_app (t : Nat) (a b : List Nat) : mxZ t (a ++ b) = max (mxZ t a) (mxZ (trail t a) b) := by
  induction a generalizing t with
  | nil =>
    show mxZ t b = max t (mxZ t b)
    have : t ≤ mxZ t b := by
      cases b with
      | nil => exact Nat.le_refl _
      | cons c r => exact Nat.le_max_left _ _
    omega
  | cons c r ih =>
    show max t (mxZ (tz t c) (r ++ b)) = max (max t (mxZ (tz t c) r)) (mxZ (trail (tz t c) r) b)
    rw [ih]
    omega
theorem cntM_app (t : Nat) (a b : List Nat) : cntM t (a ++ b) = cntM t a + cntM (trail t a) b := by
  induction a generalizing t with
  | nil =>
    show cntM t b = 0 + cntM t b
    omega
  | cons c r ih =>
    show (if c = 49 ∧ 11 ≤ t then 1 else 0) + cntM (tz t c) (r ++ b) = (if c = 49 ∧ 11 ≤ t then 1 else 0) + cntM (tz t c) r + cntM (trail (tz t c) r) b
    rw [ih]
    omega
theorem cntM_none {t : Nat} {l : List Nat} (h : mxZ t l ≤ 10) : cntM t l = 0 := by
  induction l generalizing t with
  | nil => rfl
  | cons c r ih =>
    have h : max t (mxZ (tz t c) r) ≤ 10 := h
    show (if c = 49 ∧ 11 ≤ t then 1 else 0) + cntM (tz t c) r = 0
    rw [if_neg (fun z => by have := z.2; omega), ih (by omega)]
theorem trail_rep (t n : Nat) : trail t (List.replicate n 48) = t + n := by
  induction n generalizing t with
  | zero => rfl
  | succ n ih =>
    show trail (t + 1) (List.replicate n 48) = _
    rw [ih]
    omega
theorem cntM_rep (t n : Nat) : cntM t (List.replicate n 48) = 0 := by
  induction n generalizing t with
  | zero => rfl
  | succ n ih =>
    show (if 48 = 49 ∧ 11 ≤ t then 1 else 0) + cntM (t + 1) (List.replicate n 48) = 0
    rw [if_neg (fun z => absurd z.1 (by decide)), ih]
theorem trail_le_mxZ (t : Nat) (l : List Nat) : trail t l ≤ mxZ t l := by
  induction l generalizing t with
  | nil => exact Nat.le_refl _
  | cons c r ih => exact Nat.le_trans (ih (tz t c)) (Nat.le_max_right _ _)
/-- where ten noughts stand together -/
theorem ten_mxZ {t n i : Nat} {l : List Nat} (h : (l.drop i).take n = List.replicate n 48) : n ≤ mxZ t l := by
  have e : l = l.take i ++ (List.replicate n 48 ++ (l.drop i).drop n) := by
    rw [← h, List.take_append_drop, List.take_append_drop]
  rw [e, mxZ_app, mxZ_app]
  have h1 := trail_le_mxZ (trail t (l.take i)) (List.replicate n 48)
  rw [trail_rep] at h1
  omega
/-- parts that lead from few noughts to few -/
def Few (w : List Nat) : Prop := trail 4 w ≤ 4 ∧ mxZ 4 w ≤ 9
theorem Few.from {w : List Nat} (h : Few w) {t : Nat} (ht : t ≤ 4) : trail t w ≤ 4 ∧ mxZ t w ≤ 9 := ⟨Nat.le_trans (trail_mono w ht) h.1, Nat.le_trans (mxZ_mono w ht) h.2⟩
theorem Few.nil : Few [] := ⟨Nat.le_refl _, by decide⟩
theorem Few.app {a b : List Nat} (ha : Few a) (hb : Few b) : Few (a ++ b) := by
  have h := hb.from ha.1
  refine ⟨by rw [trail_app]; exact h.1, ?_⟩
  rw [mxZ_app]
  have := ha.2
  have := h.2
  omega
theorem Few.flat : ∀ {ws : List (List Nat)}, (∀ w ∈ ws, Few w) → Few ws.flatten
  | [], _ => Few.nil
  | w :: r, h => (h w (List.mem_cons_self ..)).app (Few.flat fun x hx => h x (List.mem_cons_of_mem _ hx))
instance (w : List Nat) : Decidable (Few w) := by
  unfold Few
  exact inferInstance
/-- a mark, a tag, a telling, noughts -/
def mk12 : List Nat := [48, 48, 48, 48, 48, 48, 48, 48, 48, 48, 48, 49]
theorem cnt_mark (t : Nat) : cntM t mk12 = 1 ∧ trail t mk12 = 0 := by
  have e : mk12 = List.replicate 11 48 ++ [49] := rfl
  rw [e, cntM_app, trail_app, cntM_rep, trail_rep]
  refine ⟨?_, rfl⟩
  show 0 + ((if 49 = 49 ∧ 11 ≤ t + 11 then 1 else 0) + 0) = 1
  rw [if_pos ⟨rfl, by omega⟩]
theorem cnt_row {t c n : Nat} {w : List Nat} (hw : Few w) : cntM t (mk12 ++ (c :: w) ++ List.replicate n 48) = 1 := by
  rw [cntM_app, cntM_app, (cnt_mark t).1, (cnt_mark t).2, cntM_rep]
  have : cntM 0 (c :: w) = 0 := by
    refine cntM_none ?_
    show max 0 (mxZ (tz 0 c) w) ≤ 10
    have h1 : tz 0 c ≤ 4 := by
      unfold tz
      split <;> omega
    have := (hw.from h1).2
    omega
  rw [this]
theorem cnt_flat : ∀ {ws : List (List Nat)} (t : Nat), (∀ w ∈ ws, ∀ t, cntM t w = 1) → cntM t ws.flatten = ws.length
  | [], _, _ => rfl
  | w :: r, t, h => by
    rw [List.flatten_cons, cntM_app, h w (List.mem_cons_self ..) t, cnt_flat (ws := r) _ fun x hx => h x (List.mem_cons_of_mem _ hx), List.length_cons]
    omega
theorem cnt_end (t : Nat) : cntM t (mk12 ++ [49]) = 1 := by
  rw [cntM_app, (cnt_mark t).1, (cnt_mark t).2]
  rfl
--END
end Fp

set_option Elab.async false
set_option linter.all false
set_option maxRecDepth 100000
set_option maxHeartbeats 4000000
/-! Bits cut at the marks' ends, rows filled up. -/
namespace Fp
open PySem L2 PyProof.Rows
--PURE
/-- bits cut behind each 1 with eleven noughts ahead: the noughts ahead, what is begun -/
def cutL : Nat → List Nat → List Nat → List (List Nat)
  | _, cur, [] => [cur]
  | t, cur, c :: r => if c = 49 ∧ 11 ≤ t then (cur ++ [c]) :: cutL 0 [] r else cutL (tz t c) (cur ++ [c]) r
theorem cutL_few : ∀ (w : List Nat) (t : Nat) (cur r : List Nat), mxZ t w ≤ 10 → cutL t cur (w ++ r) = cutL (trail t w) (cur ++ w) r
  | [], t, cur, r, _ => by
    show cutL t cur r = cutL t (cur ++ []) r
    rw [List.append_nil]
  | c :: w, t, cur, r, h => by
    have h : max t (mxZ (tz t c) w) ≤ 10 := h
    show (if c = 49 ∧ 11 ≤ t then (cur ++ [c]) :: cutL 0 [] (w ++ r) else cutL (tz t c) (cur ++ [c]) (w ++ r)) = _
    rw [if_neg (fun z => by have := z.2; omega), cutL_few w (tz t c) (cur ++ [c]) r (by omega), List.append_assoc]
    rfl
theorem cutL_rep : ∀ (n t : Nat) (cur r : List Nat), cutL t cur (List.replicate n 48 ++ r) = cutL (t + n) (cur ++ List.replicate n 48) r
  | 0, t, cur, r => by
    show cutL t cur r = cutL t (cur ++ []) r
    rw [List.append_nil]
  | n + 1, t, cur, r => by
    show (if 48 = 49 ∧ 11 ≤ t then (cur ++ [48]) :: cutL 0 [] (List.replicate n 48 ++ r) else cutL (t + 1) (cur ++ [48]) (List.replicate n 48 ++ r)) = _
    rw [if_neg (fun z => absurd z.1 (by decide)), cutL_rep n (t + 1) (cur ++ [48]) r, List.append_assoc, show t + 1 + n = t + (n + 1) by omega]
    rfl
theorem cutL_mark (t : Nat) (cur r : List Nat) : cutL t cur (mk12 ++ r) = (cur ++ mk12) :: cutL 0 [] r := by
  have e : mk12 ++ r = List.replicate 11 48 ++ 49 :: r := rfl
  rw [e, cutL_rep]
  show (if 49 = 49 ∧ 11 ≤ t + 11 then (cur ++ List.replicate 11 48 ++ [49]) :: cutL 0 [] r else _) = _
  rw [if_pos ⟨rfl, by omega⟩, List.append_assoc]
  rfl
/-- parts, each behind a mark -/
def cuts : List Nat → List (List Nat) → List (List Nat)
  | cur, [] => [cur]
  | cur, w :: r => (cur ++ mk12) :: cuts w r
theorem cuts_len : ∀ (ws : List (List Nat)) (cur : List Nat), (cuts cur ws).length = ws.length + 1
  | [], _ => rfl
  | w :: r, cur => by
    show (cuts w r).length + 1 = _
    rw [cuts_len r w]
    rfl
theorem cutL_cuts : ∀ (ws : List (List Nat)) (t : Nat) (cur : List Nat), (∀ w ∈ ws, mxZ 0 w ≤ 10) → cutL t cur (ws.map (mk12 ++ ·)).flatten = cuts cur ws
  | [], _, _, _ => rfl
  | w :: r, t, cur, h => by
    rw [List.map_cons, List.flatten_cons, List.append_assoc, cutL_mark, cutL_few w 0 [] _ (h w (List.mem_cons_self ..)), cutL_cuts r _ _ (fun x hx => h x (List.mem_cons_of_mem _ hx))]
    rfl
/-- one part filled up -/
def fillP (many least k : Nat) (p : List Nat) : List Nat := if k ≤ many then p.take (p.length - 12) ++ List.replicate (least - p.length) 48 ++ p.drop (p.length - 12) else p
def fillF (many least : Nat) : Nat → List (List Nat) → List Nat
  | _, [] => []
  | k, p :: r => fillP many least k p ++ fillF many least (k + 1) r
theorem fillF_past {many least : Nat} : ∀ (ps : List (List Nat)) (k : Nat), many < k → fillF many least k ps = ps.flatten
  | [], _, _ => rfl
  | p :: r, k, h => by
    show fillP many least k p ++ fillF many least (k + 1) r = _
    rw [fillF_past r (k + 1) (by omega), List.flatten_cons]
    unfold fillP
    rw [if_neg (by omega)]
def pad12 (least : Nat) (w : List Nat) : List Nat := w ++ List.replicate (least - (12 + w.length)) 48
theorem fillP_mark {many least k : Nat} {w : List Nat} (h : k ≤ many) : fillP many least k (w ++ mk12) = pad12 least w ++ mk12 := by
  unfold fillP pad12
  have l : (w ++ mk12).length = w.length + 12 := by
    rw [List.length_append]
    rfl
  rw [if_pos h, l, Nat.add_sub_cancel, List.take_left, List.drop_left, Nat.add_comm w.length 12]
theorem fillF_cuts {many least : Nat} : ∀ (W : List (List Nat)) (w : List Nat) (k : Nat), k + W.length = many → fillF many least k (cuts w (W ++ List.replicate 6 [49])) = pad12 least w ++ (W.map fun x => mk12 ++ pad12 least x).flatten ++ (List.replicate 6 (mk12 ++ [49])).flatten
  | [], w, k, h => by
    show fillP many least k (w ++ mk12) ++ fillF many least (k + 1) (cuts [49] (List.replicate 5 [49])) = _
    have h : k + 0 = many := h
    rw [fillP_mark (by omega), fillF_past _ _ (by omega), List.append_assoc]
    show _ = pad12 least w ++ [] ++ _
    rw [List.append_nil]
    rfl
  | x :: W, w, k, h => by
    show fillP many least k (w ++ mk12) ++ fillF many least (k + 1) (cuts x (W ++ List.replicate 6 [49])) = _
    rw [List.length_cons] at h
    rw [fillP_mark (by omega), fillF_cuts W x (k + 1) (by omega), List.map_cons, List.flatten_cons]
    simp only [List.append_assoc]
/-- the law's filling up, by the parts -/
theorem fill_all {least : Nat} {W : List (List Nat)} (h : W ≠ []) : mk12 ++ fillF W.length least 1 ((cuts [] (W ++ List.replicate 6 [49])).drop 1) = (W.map fun x => mk12 ++ pad12 least x).flatten ++ (List.replicate 6 (mk12 ++ [49])).flatten := by
  cases W with
  | nil => exact absurd rfl h
  | cons w W =>
    show mk12 ++ fillF _ least 1 (cuts w (W ++ List.replicate 6 [49])) = _
    rw [fillF_cuts W w 1 (by rw [List.length_cons]; omega), List.map_cons, List.flatten_cons]
    simp only [List.append_assoc]
theorem fillF_app {many least : Nat} : ∀ (a b : List (List Nat)) (k : Nat), fillF many least k (a ++ b) = fillF many least k a ++ fillF many least (k + a.length) b
  | [], b, k => rfl
  | p :: r, b, k => by
    show fillP many least k p ++ fillF many least (k + 1) (r ++ b) = fillP many least k p ++ fillF many least (k + 1) r ++ _
    rw [fillF_app r b (k + 1), List.append_assoc, List.length_cons, show k + 1 + r.length = k + (r.length + 1) by omega]
/-- the walk of the cut: bits, where the part begins, the noughts ahead -/
theorem cutL_step {l : List Nat} {i b t c : Nat} (hb : b ≤ i) (hc : l[i]? = some c) : cutL t ((l.drop b).take (i - b)) (l.drop i) = if c = 49 ∧ 11 ≤ t then ((l.drop b).take (i + 1 - b)) :: cutL 0 ((l.drop (i + 1)).take (i + 1 - (i + 1))) (l.drop (i + 1)) else cutL (tz t c) ((l.drop b).take (i + 1 - b)) (l.drop (i + 1)) := by
  obtain ⟨hi, he⟩ := List.getElem?_eq_some_iff.mp hc
  have e1 : l.drop i = c :: l.drop (i + 1) := by rw [List.drop_eq_getElem_cons hi, he]
  have e2 : (l.drop b).take (i - b) ++ [c] = (l.drop b).take (i + 1 - b) := by
    have : (l.drop b)[i - b]? = some c := by rw [List.getElem?_drop, show b + (i - b) = i by omega, hc]
    rw [show i + 1 - b = i - b + 1 by omega, List.take_add_one, this]
    rfl
  rw [e1]
  show (if c = 49 ∧ 11 ≤ t then ((l.drop b).take (i - b) ++ [c]) :: cutL 0 [] (l.drop (i + 1)) else cutL (tz t c) ((l.drop b).take (i - b) ++ [c]) (l.drop (i + 1))) = _
  rw [e2, Nat.sub_self, List.take_zero]
theorem cutL_sum : ∀ (l : List Nat) (t : Nat) (cur : List Nat), (cutL t cur l).flatten = cur ++ l
  | [], t, cur => by
    show [cur].flatten = cur ++ []
    simp
  | c :: r, t, cur => by
    show (if c = 49 ∧ 11 ≤ t then (cur ++ [c]) :: cutL 0 [] r else cutL (tz t c) (cur ++ [c]) r).flatten = _
    split
    · rw [List.flatten_cons, cutL_sum r 0 []]
      simp
    · rw [cutL_sum r _ _]
      simp
theorem mem_flat_len {p : List Nat} : ∀ {ps : List (List Nat)}, p ∈ ps → p.length ≤ ps.flatten.length
  | q :: ps, h => by
    rw [List.flatten_cons, List.length_append]
    rcases List.mem_cons.mp h with e | e
    · rw [e]
      omega
    · have := mem_flat_len e
      omega
--END
end Fp

set_option Elab.async false
set_option linter.all false
set_option maxRecDepth 100000
set_option maxHeartbeats 4000000
/-! Bits of blocks, each with a mark behind it: their stretches. -/
namespace Fp
open PySem L2 PyProof.Rows
def NoMk (w : List Nat) : Prop := ∀ v, occ w v = false
theorem noMk_short {w : List Nat} (h : w.length < 12) : NoMk w := fun v => occ_far (by omega)
theorem noMk_pad {m : Nat} {w : List Nat} (h : mxZ 0 w ≤ 10) : NoMk (w ++ List.replicate m 48) := fun v => by
  cases e : occ (w ++ List.replicate m 48) v with
  | false => rfl
  | true =>
    exfalso
    obtain ⟨h1, h2⟩ := occ_iff.mp e
    have lt : v + 11 < w.length := by
      by_cases z : v + 11 < w.length
      · exact z
      · rw [List.getElem?_append_right (by omega), List.getElem?_replicate] at h1
        split at h1
        · cases h1
        · cases h1
    rw [List.drop_append_of_le_length (by omega), List.take_append_of_le_length (by rw [List.length_drop]; omega)] at h2
    have := ten_mxZ (t := 0) h2
    omega
def blk (ws : List (List Nat)) : List Nat := (ws.map (· ++ mkL)).flatten
theorem blk_cons (w : List Nat) (ws : List (List Nat)) : blk (w :: ws) = w ++ (mkL ++ blk ws) := by
  unfold blk
  rw [List.map_cons, List.flatten_cons, List.append_assoc]
theorem blk_app (a b : List (List Nat)) : blk (a ++ b) = blk a ++ blk b := by
  unfold blk
  rw [List.map_append, List.flatten_append]
theorem occ_app (P R : List Nat) (v : Nat) : occ (P ++ R) (P.length + v) = occ R v := by
  unfold occ
  rw [← List.drop_drop, List.drop_left]
theorem occ_here (P R : List Nat) : occ (P ++ (mkL ++ R)) P.length = true := by
  have := occ_app P (mkL ++ R) 0
  rw [Nat.add_zero] at this
  rw [this]
  rfl
theorem occ_before {w R : List Nat} (h : NoMk w) {u : Nat} (hu : u < w.length) : occ (w ++ (mkL ++ R)) u = false := by
  cases e : occ (w ++ (mkL ++ R)) u with
  | false => rfl
  | true =>
    exfalso
    obtain ⟨h1, h2⟩ := occ_iff.mp e
    by_cases z : u + 11 < w.length
    · rw [List.getElem?_append_left z] at h1
      rw [List.drop_append_of_le_length (by omega), List.take_append_of_le_length (by rw [List.length_drop]; omega)] at h2
      have := occ_iff.mpr ⟨h1, h2⟩
      rw [h u] at this
      cases this
    · rw [List.getElem?_append_right (by omega)] at h1
      have lt : u + 11 - w.length < 11 := by omega
      generalize u + 11 - w.length = j at h1 lt
      rw [List.getElem?_append_left (show j < mkL.length by show j < 12; omega)] at h1
      have : ∀ j, j < 11 → mkL[j]? = some 48 := by decide
      rw [this j lt] at h1
      cases h1
def posL : Nat → List (List Nat) → List Nat
  | _, [] => []
  | e, w :: ws => (e + w.length) :: posL (e + w.length + 12) ws
theorem occs_blk : ∀ (ws : List (List Nat)) (P Q : List Nat), (∀ w ∈ ws, NoMk w) → occs (P ++ (blk ws ++ Q)) (P.length + (blk ws).length) = occs (P ++ (blk ws ++ Q)) P.length ++ posL P.length ws
  | [], P, Q, _ => by
    show occs _ (P.length + 0) = _ ++ []
    rw [List.append_nil, Nat.add_zero]
  | w :: ws, P, Q, h => by
    have hw := h w (List.mem_cons_self ..)
    have ih := occs_blk ws (P ++ (w ++ mkL)) Q (fun x hx => h x (List.mem_cons_of_mem _ hx))
    have eL : P ++ (w ++ mkL) ++ (blk ws ++ Q) = P ++ (blk (w :: ws) ++ Q) := by
      rw [blk_cons]
      simp only [List.append_assoc]
    rw [eL] at ih
    have lm : mkL.length = 12 := rfl
    have e1 : (P ++ (w ++ mkL)).length = P.length + w.length + 12 := by
      rw [List.length_append, List.length_append, lm, Nat.add_assoc]
    have e2 : (blk (w :: ws)).length = w.length + 12 + (blk ws).length := by
      rw [blk_cons, List.length_append, List.length_append, lm, Nat.add_assoc]
    rw [e1] at ih
    rw [e2, show P.length + (w.length + 12 + (blk ws).length) = P.length + w.length + 12 + (blk ws).length by omega, ih]
    have one := occs_one (l := P ++ (blk (w :: ws) ++ Q)) (s := P.length) (k := P.length + w.length) (by omega) ?_ ?_
    · rw [one, List.append_assoc]
      rfl
    · rw [blk_cons, List.append_assoc, List.append_assoc, ← List.append_assoc, ← List.length_append]
      exact occ_here _ _
    · intro v a b
      obtain ⟨u, rfl⟩ : ∃ u, v = P.length + u := ⟨v - P.length, by omega⟩
      rw [occ_app, blk_cons, List.append_assoc, List.append_assoc]
      exact occ_before hw (by omega)
theorem occs_pre (l : List Nat) {s t : Nat} (h : s ≤ t) : ∃ X, occs l t = occs l s ++ X := by
  obtain ⟨d, rfl⟩ : ∃ d, t = s + d := ⟨t - s, by omega⟩
  refine ⟨((List.range d).map (s + ·)).filter (occ l), ?_⟩
  unfold occs
  rw [List.range_add, List.filter_append]
theorem posL_at : ∀ (ws : List (List Nat)) (e i : Nat), i < ws.length → (posL e ws)[i]? = some (e + (blk (ws.take i)).length + (ws.getD i []).length)
  | [], _, _, h => absurd h (Nat.not_lt_zero _)
  | w :: ws, e, 0, _ => rfl
  | w :: ws, e, i + 1, h => by
    have ih := posL_at ws (e + w.length + 12) i (by rw [List.length_cons] at h; omega)
    show (posL (e + w.length + 12) ws)[i]? = _
    rw [ih]
    show some _ = some (e + (blk (w :: ws.take i)).length + (ws.getD i []).length)
    rw [blk_cons, List.length_append, List.length_append]
    show some _ = some (e + (w.length + (12 + _)) + _)
    congr 1
    omega
theorem blk_take {ws : List (List Nat)} {i : Nat} (h : i < ws.length) : blk (ws.take (i + 1)) = blk (ws.take i) ++ (ws.getD i [] ++ mkL) := by
  rw [List.take_succ, List.getElem?_eq_getElem h, List.getD_eq_getElem?_getD, List.getElem?_eq_getElem h, blk_app]
  show _ ++ blk [ws[i]] = _
  rw [blk_cons]
  show _ ++ (ws[i] ++ (mkL ++ [])) = _
  rw [List.append_nil]
  rfl
theorem ends_blk {ws : List (List Nat)} {Q : List Nat} (h : ∀ w ∈ ws, NoMk w) {i : Nat} (hi : i < ws.length) : i < (endsL (blk ws ++ Q)).length ∧ (endsL (blk ws ++ Q)).getD i 0 = (blk (ws.take (i + 1))).length := by
  have o := occs_blk ws [] Q h
  rw [List.nil_append, List.length_nil, Nat.zero_add] at o
  obtain ⟨X, hX⟩ := occs_pre (blk ws ++ Q) (s := (blk ws).length) (t := (blk ws ++ Q).length) (by rw [List.length_append]; omega)
  rw [o] at hX
  have o0 : occs (blk ws ++ Q) 0 = [] := rfl
  rw [o0, List.nil_append] at hX
  have at_ : (endsL (blk ws ++ Q))[i]? = some ((blk (ws.take (i + 1))).length) := by
    unfold endsL
    rw [hX, List.getElem?_map]
    have p := posL_at ws 0 i hi
    have lt : i < (posL 0 ws).length := by
      rcases Nat.lt_or_ge i (posL 0 ws).length with z | z
      · exact z
      · rw [List.getElem?_eq_none z] at p
        cases p
    rw [List.getElem?_append_left lt, p, blk_take hi, List.length_append, List.length_append]
    show some (0 + _ + _ + 12) = some (_ + (_ + 12))
    congr 1
    omega
  refine ⟨?_, ?_⟩
  · rcases Nat.lt_or_ge i (endsL (blk ws ++ Q)).length with z | z
    · exact z
    · rw [List.getElem?_eq_none z] at at_
      cases at_
  · rw [List.getD_eq_getElem?_getD, at_]
    rfl
theorem stt_blk {ws : List (List Nat)} {Q : List Nat} (h : ∀ w ∈ ws, NoMk w) {i : Nat} (hi : i + 1 < ws.length) : i < (sttL (blk ws ++ Q)).length ∧ (sttL (blk ws ++ Q)).getD i [] = ws.getD (i + 1) [] ++ mkL := by
  obtain ⟨a1, a2⟩ := ends_blk (Q := Q) h (i := i) (by omega)
  obtain ⟨b1, b2⟩ := ends_blk (Q := Q) h (i := i + 1) hi
  have l1 := sttL_len (blk ws ++ Q)
  obtain ⟨_, _, _, _, s5⟩ := str_at (l := blk ws ++ Q) b1
  refine ⟨by omega, ?_⟩
  rw [List.getD_eq_getElem?_getD, s5, a2, b2]
  show List.take _ _ = _
  have e1 : blk ws ++ Q = blk (ws.take (i + 1)) ++ ((ws.getD (i + 1) [] ++ mkL) ++ (blk (ws.drop (i + 2)) ++ Q)) := by
    rw [← List.append_assoc, ← List.append_assoc, ← blk_take hi, ← blk_app, List.take_append_drop]
  rw [blk_take hi, e1, List.drop_left, List.length_append, Nat.add_sub_cancel_left, List.take_left]
theorem few_one {w : List Nat} (h : Few w) (ne : w ≠ []) (hb : ∀ c ∈ w, c = 48 ∨ c = 49) : 49 ∈ w := by
  by_cases z : 49 ∈ w
  · exact z
  · exfalso
    have e : w = List.replicate w.length 48 := by
      rw [List.eq_replicate_iff]
      refine ⟨rfl, fun c hc => ?_⟩
      rcases hb c hc with y | y
      · exact y
      · rw [y] at hc
        exact absurd hc z
    have t := h.1
    rw [e, trail_rep] at t
    have : 0 < w.length := List.length_pos_iff.mpr ne
    omega
theorem emp_end : emp ([49] ++ mkL) = true := by decide
theorem not_emp {c m : Nat} {w : List Nat} (hc : c = 48 ∨ c = 49 ∧ 49 ∈ w) : emp ((c :: w) ++ List.replicate m 48 ++ mkL) = false := by
  unfold emp
  refine decide_eq_false (fun z => ?_)
  rw [List.cons_append, List.cons_append, List.cons.injEq] at z
  obtain ⟨z1, z2⟩ := z
  rcases hc with rfl | ⟨rfl, hw⟩
  · cases z1
  · have e : mkL = List.replicate 11 48 ++ [49] := rfl
    rw [e, ← List.append_assoc] at z2
    have := List.append_inj_left' z2 rfl
    have hm : 49 ∈ List.replicate (List.length (49 :: (w ++ List.replicate m 48 ++ List.replicate 11 48 ++ [49])) - 2) 48 := by
      rw [← this]
      exact List.mem_append_left _ (List.mem_append_left _ hw)
    have := (List.mem_replicate.mp hm).2
    cases this
theorem strR_rows {ah be : List Nat} {W F' : List (List Nat)} {b : Bool} (hA : NoMk ah) (hW : ∀ w ∈ W, NoMk w ∧ emp (w ++ mkL) = false) (h : StrR (sttL (blk (ah :: (W ++ List.replicate 5 [49])) ++ be)) F' b) : b = true ∧ F' = W.map (· ++ mkL) := by
  have hN : ∀ w ∈ ah :: (W ++ List.replicate 5 [49]), NoMk w := fun w hw => by
    rcases List.mem_cons.mp hw with rfl | hw
    · exact hA
    rcases List.mem_append.mp hw with hw | hw
    · exact (hW w hw).1
    · rw [(List.mem_replicate.mp hw).2]
      exact noMk_short (by decide)
  have len : (ah :: (W ++ List.replicate 5 [49])).length = W.length + 6 := by
    rw [List.length_cons, List.length_append, List.length_replicate]
  have st := fun i (hi : i + 1 < (ah :: (W ++ List.replicate 5 [49])).length) => stt_blk (Q := be) hN hi
  rw [len] at st
  generalize sttL (blk (ah :: (W ++ List.replicate 5 [49])) ++ be) = F at h st
  have lF := (st (W.length + 4) (by omega)).1
  have row : ∀ i, i < W.length → F.getD i [] = W.getD i [] ++ mkL := fun i hi => by
    rw [(st i (by omega)).2, List.getD_cons_succ, List.getD_eq_getElem?_getD, List.getElem?_append_left hi, ← List.getD_eq_getElem?_getD]
  have rowE : ∀ i, i < W.length → emp (F.getD i []) = false := fun i hi => by
    rw [row i hi, List.getD_eq_getElem?_getD, List.getElem?_eq_getElem hi]
    exact (hW _ (List.getElem_mem hi)).2
  have fin : ∀ i, W.length ≤ i → i < W.length + 5 → emp (F.getD i []) = true := fun i h1 h2 => by
    rw [(st i (by omega)).2, List.getD_cons_succ, List.getD_eq_getElem?_getD, List.getElem?_append_right h1, List.getElem?_replicate, if_pos (by omega)]
    exact emp_end
  have two : E2 F (W.length + 1) := ⟨fin _ (by omega) (by omega), fin _ (by omega) (by omega)⟩
  rcases h with ⟨hb, a, a1, a2, a3, a4, a5⟩ | ⟨_, no, _⟩
  · refine ⟨hb, ?_⟩
    have n1 : ¬ a ≤ W.length := fun z => by
      have := a3.1
      rw [rowE (a - 1) (by omega)] at this
      cases this
    have n2 : ¬ W.length + 1 < a := fun z => a4 _ (by omega) z two
    have ea : a - 1 = W.length := by omega
    rw [a5, ea]
    refine List.ext_getElem? fun i => ?_
    rw [List.getElem?_map]
    by_cases z : i < W.length
    · have r := row i z
      rw [List.getD_eq_getElem?_getD, List.getElem?_eq_getElem (show i < F.length by omega), List.getD_eq_getElem?_getD, List.getElem?_eq_getElem z] at r
      rw [List.getElem?_take_of_lt z, List.getElem?_eq_getElem (show i < F.length by omega), List.getElem?_eq_getElem z]
      exact congrArg some r
    · rw [List.getElem?_eq_none (by rw [List.length_take]; omega), List.getElem?_eq_none (by omega)]
      rfl
  · exact absurd two (no _ (by omega) (by omega))
end Fp

set_option Elab.async false
set_option linter.all false
set_option maxRecDepth 100000
set_option maxHeartbeats 4000000
/-! A block that came whole, with the mark ahead of it and the one behind it: its stretch among any bits (for k25). -/
namespace Fp
open PySem L2 PyProof.Rows
theorem ends_inner {X w Y : List Nat} (h : NoMk w) : ∃ Z, endsL (X ++ (mkL ++ (w ++ (mkL ++ Y)))) = (occs (X ++ (mkL ++ (w ++ (mkL ++ Y)))) X.length).map (· + 12) ++ (X.length + 12) :: (X.length + 12 + w.length + 12) :: Z := by
  have o1 := occs_one (l := X ++ (mkL ++ (w ++ (mkL ++ Y)))) (s := X.length) (k := X.length) (Nat.le_refl _) (occ_here X _) (fun v a b => absurd b (by omega))
  have o2 := occs_blk [w] (X ++ mkL) Y (fun x hx => by rw [List.mem_singleton.mp hx]; exact h)
  have eL : X ++ mkL ++ (blk [w] ++ Y) = X ++ (mkL ++ (w ++ (mkL ++ Y))) := by
    rw [blk_cons]
    show X ++ mkL ++ (w ++ (mkL ++ []) ++ Y) = _
    simp only [List.append_assoc, List.append_nil, List.nil_append]
  have lm : mkL.length = 12 := rfl
  have lb : (blk [w]).length = w.length + 12 := by
    rw [blk_cons, List.length_append]
    rfl
  rw [eL, List.length_append, lm, lb, o1] at o2
  obtain ⟨Z, hZ⟩ := occs_pre (X ++ (mkL ++ (w ++ (mkL ++ Y)))) (s := X.length + 12 + (w.length + 12)) (t := (X ++ (mkL ++ (w ++ (mkL ++ Y)))).length) (by
    rw [List.length_append, List.length_append, List.length_append, List.length_append, lm]
    omega)
  rw [o2] at hZ
  refine ⟨Z.map (· + 12), ?_⟩
  unfold endsL
  rw [hZ]
  simp only [List.map_append, List.map_cons, List.map_nil, List.append_assoc, List.cons_append, List.nil_append, posL]
theorem stt_inner {X w Y : List Nat} (h : NoMk w) : ∃ s, s + 1 < (endsL (X ++ (mkL ++ (w ++ (mkL ++ Y))))).length ∧ (endsL (X ++ (mkL ++ (w ++ (mkL ++ Y)))))[s]? = some (X.length + 12) ∧ (sttL (X ++ (mkL ++ (w ++ (mkL ++ Y)))))[s]? = some (w ++ mkL) := by
  obtain ⟨Z, hZ⟩ := ends_inner (X := X) (Y := Y) h
  generalize hA : (occs (X ++ (mkL ++ (w ++ (mkL ++ Y)))) X.length).map (· + 12) = A at hZ
  have g0 : (endsL (X ++ (mkL ++ (w ++ (mkL ++ Y)))))[A.length]? = some (X.length + 12) := by
    rw [hZ, List.getElem?_append_right (Nat.le_refl _), Nat.sub_self]
    rfl
  have g1 : (endsL (X ++ (mkL ++ (w ++ (mkL ++ Y)))))[A.length + 1]? = some (X.length + 12 + w.length + 12) := by
    rw [hZ, List.getElem?_append_right (by omega), show A.length + 1 - A.length = 1 by omega]
    rfl
  have lt : A.length + 1 < (endsL (X ++ (mkL ++ (w ++ (mkL ++ Y))))).length := by
    rw [hZ, List.length_append, List.length_cons, List.length_cons]
    omega
  refine ⟨A.length, lt, g0, ?_⟩
  obtain ⟨_, _, _, _, s5⟩ := str_at lt
  simp only [s5, List.getD_eq_getElem?_getD, g0, g1]
  show some ((List.drop (X.length + 12) _).take (X.length + 12 + w.length + 12 - (X.length + 12))) = _
  have e1 : X ++ (mkL ++ (w ++ (mkL ++ Y))) = (X ++ mkL) ++ ((w ++ mkL) ++ Y) := by simp only [List.append_assoc]
  have e2 : X.length + 12 = (X ++ mkL).length := by
    rw [List.length_append]
    rfl
  have e3 : X.length + 12 + w.length + 12 - (X.length + 12) = (w ++ mkL).length := by
    rw [List.length_append]
    show _ = w.length + 12
    omega
  rw [e3, e1, e2, List.drop_left, List.take_left]
end Fp

set_option Elab.async false
set_option linter.all false
set_option maxRecDepth 100000
set_option maxHeartbeats 4000000
/-! Bits followed through spoils, each with its place in what was sent (for k25). -/
namespace Fp
open PySem L2 PyProof.Rows
abbrev Ar := List (Nat × Option Nat)
def RisesP (a b : Nat × Option Nat) : Prop := ∀ p q, a.2 = some p → b.2 = some q → p < q
def OkR (l : List Nat) (x : Ar) : Prop := (∀ y ∈ x, ∀ p, y.2 = some p → l[p]? = some y.1) ∧ x.Pairwise RisesP
def arr0 (l : List Nat) : Ar := (List.range l.length).map fun i => (l.getD i 0, some i)
theorem okR_0 (l : List Nat) : OkR l (arr0 l) := by
  refine ⟨fun y hy p hp => ?_, ?_⟩
  · obtain ⟨i, hi, rfl⟩ := List.mem_map.mp hy
    have hi := List.mem_range.mp hi
    have e : i = p := Option.some.inj hp
    rw [← e]
    show l[i]? = some (l.getD i 0)
    rw [List.getD_eq_getElem?_getD, List.getElem?_eq_getElem hi]
    rfl
  · unfold arr0
    rw [List.pairwise_map]
    refine List.Pairwise.imp (fun {a b} h => ?_) List.pairwise_lt_range
    intro p q hp hq
    cases hp
    cases hq
    exact h
theorem okR_sub {l : List Nat} {x z : Ar} (h : OkR l x) (s : z.Sublist x) : OkR l z := ⟨fun y hy => h.1 y (s.subset hy), h.2.sublist s⟩
theorem okR_ins {l : List Nat} {A B : Ar} {d : Nat} (h : OkR l (A ++ B)) : OkR l (A ++ (d, none) :: B) := by
  refine ⟨fun y hy p hp => ?_, ?_⟩
  · rcases List.mem_append.mp hy with z | z
    · exact h.1 y (List.mem_append_left _ z) p hp
    · rcases List.mem_cons.mp z with rfl | z
      · cases hp
      · exact h.1 y (List.mem_append_right _ z) p hp
  · obtain ⟨h1, h2, h3⟩ := List.pairwise_append.mp h.2
    refine List.pairwise_append.mpr ⟨h1, List.pairwise_cons.mpr ⟨(fun b _ p q hp _ => by cases hp), h2⟩, fun a ha b hb => ?_⟩
    rcases List.mem_cons.mp hb with rfl | hb
    · intro p q _ hq
      cases hq
    · exact h3 a ha b hb
theorem okR_put {l : List Nat} {x : Ar} (h : OkR l x) (n d : Nat) : OkR l (x.take n ++ (d, none) :: x.drop n) := okR_ins (by rw [List.take_append_drop]; exact h)
theorem okR_erase {l : List Nat} {x : Ar} (h : OkR l x) (n : Nat) : OkR l (x.eraseIdx n) := okR_sub h (List.eraseIdx_sublist x n)
theorem okR_set {l : List Nat} {x : Ar} (h : OkR l x) {n d : Nat} (hn : n < x.length) : OkR l (x.set n (d, none)) := by
  rw [List.set_eq_take_append_cons_drop, if_pos hn]
  refine okR_ins (okR_sub h ?_)
  have := List.eraseIdx_sublist x n
  rw [List.eraseIdx_eq_take_drop_succ] at this
  exact this
/-- a place stands once -/
theorem place_once {l : List Nat} {x : Ar} (h : OkR l x) {i j p : Nat} (hi : (x.map Prod.snd)[i]? = some (some p)) (hj : (x.map Prod.snd)[j]? = some (some p)) : i = j := by
  rw [List.getElem?_map] at hi hj
  cases ei : x[i]? with
  | none =>
    rw [ei] at hi
    cases hi
  | some a =>
    cases ej : x[j]? with
    | none =>
      rw [ej] at hj
      cases hj
    | some b =>
      rw [ei] at hi
      rw [ej] at hj
      have hi : a.2 = some p := Option.some.inj hi
      have hj : b.2 = some p := Option.some.inj hj
      obtain ⟨li, ei⟩ := List.getElem?_eq_some_iff.mp ei
      obtain ⟨lj, ej⟩ := List.getElem?_eq_some_iff.mp ej
      have pw := List.pairwise_iff_getElem.mp h.2
      rcases Nat.lt_trichotomy i j with z | z | z
      · have := pw i j li lj z p p (by rw [ei]; exact hi) (by rw [ej]; exact hj)
        omega
      · exact z
      · have := pw j i lj li z p p (by rw [ej]; exact hj) (by rw [ei]; exact hi)
        omega
/-- what came whole is what was sent -/
theorem came_bits {l : List Nat} {x : Ar} (h : OkR l x) {a b n : Nat} (e : ((x.map Prod.snd).drop a).take n = (List.range n).map fun k => some (b + k)) : ((x.map Prod.fst).drop a).take n = (l.drop b).take n ∧ b + n ≤ l.length ∨ n = 0 := by
  by_cases n0 : n = 0
  · exact .inr n0
  left
  have at_ : ∀ k, k < n → ∃ c, x[a + k]? = some (c, some (b + k)) ∧ l[b + k]? = some c := fun k hk => by
    have e1 : (((x.map Prod.snd).drop a).take n)[k]? = some (some (b + k)) := by
      rw [e, List.getElem?_map, List.getElem?_range hk]
      rfl
    rw [List.getElem?_take_of_lt hk, List.getElem?_drop, List.getElem?_map] at e1
    cases ex : x[a + k]? with
    | none =>
      rw [ex] at e1
      cases e1
    | some y =>
      rw [ex] at e1
      have e1 : y.2 = some (b + k) := Option.some.inj e1
      exact ⟨y.1, by rw [← e1], h.1 y (List.mem_of_getElem? ex) _ e1⟩
  have bn : b + n ≤ l.length := by
    obtain ⟨c, _, h2⟩ := at_ (n - 1) (by omega)
    have := (List.getElem?_eq_some_iff.mp h2).1
    omega
  refine ⟨?_, bn⟩
  refine List.ext_getElem? fun k => ?_
  by_cases hk : k < n
  · obtain ⟨c, h1, h2⟩ := at_ k hk
    rw [List.getElem?_take_of_lt hk, List.getElem?_take_of_lt hk, List.getElem?_drop, List.getElem?_drop, List.getElem?_map, h1, h2]
    rfl
  · rw [List.getElem?_eq_none (by rw [List.length_take]; omega), List.getElem?_eq_none (by rw [List.length_take]; omega)]
end Fp

set_option Elab.async false
set_option linter.all false
set_option maxRecDepth 100000
set_option maxHeartbeats 4000000
/-! Tuples in a list (of any kind), and rows that came whole (for k25). -/
namespace Fp
open PySem L2 PyProof.Rows
/-! ### tuples in a list -/
def TpsAt {α : Type} (f : α → List V) (H : Hp) : List V → List α → Prop
  | [], [] => True
  | v :: vs, x :: xs => (∃ a, v = .ref a ∧ H a = some (.tup (f x))) ∧ TpsAt f H vs xs
  | _, _ => False
section
variable {α : Type} {f : α → List V} {H H' : Hp}
theorem TpsAt.len : ∀ {vs : List V} {xs : List α}, TpsAt f H vs xs → vs.length = xs.length
  | [], [], _ => rfl
  | _ :: _, _ :: _, ⟨_, r⟩ => congrArg (· + 1) (TpsAt.len r)
  | [], _ :: _, h => h.elim
  | _ :: _, [], h => h.elim
theorem TpsAt.mono (k : ∀ (a : Addr) (xs : List V), H a = some (.tup xs) → H' a = some (.tup xs)) : ∀ {vs : List V} {xs : List α}, TpsAt f H vs xs → TpsAt f H' vs xs
  | [], [], _ => trivial
  | _ :: _, _ :: _, ⟨⟨t, e, h⟩, r⟩ => ⟨⟨t, e, k _ _ h⟩, TpsAt.mono k r⟩
  | [], _ :: _, h => h.elim
  | _ :: _, [], h => h.elim
theorem TpsAt.get : ∀ {vs : List V} {xs : List α} {k : Nat} {x : α}, TpsAt f H vs xs → xs[k]? = some x → ∃ t, vs[k]? = some (.ref t) ∧ H t = some (.tup (f x))
  | [], [], _, _, _, h => by cases h
  | _ :: _, _ :: _, 0, x, ⟨⟨t, e, h⟩, _⟩, hk => by
    cases hk
    exact ⟨t, congrArg some e, h⟩
  | _ :: _, _ :: _, k + 1, x, ⟨_, r⟩, hk => TpsAt.get (k := k) r hk
  | [], _ :: _, _, _, h, _ => h.elim
  | _ :: _, [], _, _, h, _ => h.elim
theorem TpsAt.getV : ∀ {vs : List V} {xs : List α} {k : Nat} {v : V}, TpsAt f H vs xs → vs[k]? = some v → ∃ t x, xs[k]? = some x ∧ v = .ref t ∧ H t = some (.tup (f x))
  | [], [], _, _, _, h => by cases h
  | _ :: _, x :: _, 0, v, ⟨⟨t, e, h⟩, _⟩, hk => by
    cases hk
    exact ⟨t, x, rfl, e, h⟩
  | _ :: _, _ :: _, k + 1, v, ⟨_, r⟩, hk => TpsAt.getV (k := k) r hk
  | [], _ :: _, _, _, h, _ => h.elim
  | _ :: _, [], _, _, h, _ => h.elim
theorem TpsAt.app {ws : List V} {ys : List α} (k : TpsAt f H ws ys) : ∀ {vs : List V} {xs : List α}, TpsAt f H vs xs → TpsAt f H (vs ++ ws) (xs ++ ys)
  | [], [], _ => k
  | _ :: _, _ :: _, h => ⟨h.1, TpsAt.app k h.2⟩
  | [], _ :: _, h => h.elim
  | _ :: _, [], h => h.elim
theorem TpsAt.take : ∀ {vs : List V} {xs : List α} (n : Nat), TpsAt f H vs xs → TpsAt f H (vs.take n) (xs.take n)
  | [], [], n, _ => by rw [List.take_nil, List.take_nil]; trivial
  | _ :: _, _ :: _, 0, _ => trivial
  | _ :: _, _ :: _, n + 1, h => ⟨h.1, TpsAt.take n h.2⟩
  | [], _ :: _, _, h => h.elim
  | _ :: _, [], _, h => h.elim
theorem TpsAt.drop : ∀ {vs : List V} {xs : List α} (n : Nat), TpsAt f H vs xs → TpsAt f H (vs.drop n) (xs.drop n)
  | [], [], n, _ => by rw [List.drop_nil, List.drop_nil]; trivial
  | _ :: _, _ :: _, 0, h => h
  | _ :: _, _ :: _, n + 1, h => TpsAt.drop n h.2
  | [], _ :: _, _, h => h.elim
  | _ :: _, [], _, h => h.elim
theorem TpsAt.one {t : Addr} {x : α} (h : H t = some (.tup (f x))) : TpsAt f H [.ref t] [x] := ⟨⟨t, rfl, h⟩, trivial⟩
theorem TpsAt.push {vs : List V} {xs : List α} {t : Addr} {x : α} (h : TpsAt f H vs xs) (ht : H t = some (.tup (f x))) : TpsAt f H (vs ++ [.ref t]) (xs ++ [x]) := TpsAt.app (TpsAt.one ht) h
end
/-! ### data in general -/
theorem lay_all {α : Type} (f : α → PyData) : ∀ {xs : List α}, (∀ x ∈ xs, PyData.canLay0 (f x) = true) → PyData.canLayAll0 (xs.map f) = true
  | [], _ => by simp [PyData.canLayAll0]
  | x :: xs, h => by
    have ih := lay_all f (xs := xs) fun y hy => h y (List.mem_cons_of_mem _ hy)
    have h1 := h x (List.mem_cons_self ..)
    simp only [List.map_cons, PyData.canLayAll0, h1, ih, Bool.and_true]
theorem depth_all {α : Type} (f : α → PyData) (n : Nat) : ∀ {xs : List α}, (∀ x ∈ xs, PyData.depth (f x) ≤ n) → PyData.depthAll (xs.map f) ≤ n
  | [], _ => by simp [PyData.depthAll]
  | x :: xs, h => by
    have ih := depth_all f n (xs := xs) fun y hy => h y (List.mem_cons_of_mem _ hy)
    have h1 := h x (List.mem_cons_self ..)
    simp only [List.map_cons, PyData.depthAll]
    omega
/-- data that may be laid, not deep -/
def DOk (d : PyData) (n : Nat) : Prop := PyData.canLay0 d = true ∧ PyData.depth d ≤ n
theorem DOk.shaped {d : PyData} {n : Nat} (h : DOk d n) (hn : n ≤ 64 := by decide) : SeqAt.shaped d = true := by
  show (PyData.canLay0 d && decide (PyData.depth d ≤ 64)) = true
  rw [Bool.and_eq_true]
  exact ⟨h.1, decide_eq_true (Nat.le_trans h.2 hn)⟩
theorem DOk.refl {d : PyData} {n : Nat} (h : DOk d n) : PyData.eqv d d = true := SeqAt.eqv_refl _ h.1
theorem DOk.list {α : Type} {f : α → PyData} {n : Nat} {xs : List α} (h : ∀ x ∈ xs, DOk (f x) n) : DOk (.list (xs.map f)) (n + 1) := by
  refine ⟨by simp only [PyData.canLay0]; exact lay_all f fun x hx => (h x hx).1, ?_⟩
  have := depth_all f n fun x hx => (h x hx).2
  simp only [PyData.depth]
  omega
theorem DOk.tuple {α : Type} {f : α → PyData} {n : Nat} {xs : List α} (h : ∀ x ∈ xs, DOk (f x) n) : DOk (.tuple (xs.map f)) (n + 1) := by
  refine ⟨by simp only [PyData.canLay0]; exact lay_all f fun x hx => (h x hx).1, ?_⟩
  have := depth_all f n fun x hx => (h x hx).2
  simp only [PyData.depth]
  omega
theorem DOk.int (i : Int) : DOk (.int i) 0 := ⟨by simp only [PyData.canLay0], by simp only [PyData.depth]; exact Nat.le_refl _⟩
theorem DOk.bool (b : Bool) : DOk (.bool b) 0 := ⟨by simp only [PyData.canLay0], by simp only [PyData.depth]; exact Nat.le_refl _⟩
theorem DOk.none : DOk .none 0 := ⟨by simp only [PyData.canLay0], by simp only [PyData.depth]; exact Nat.le_refl _⟩
theorem DOk.str {l : List Nat} (h : Codes l) : DOk (.str (sOf l)) 0 := ⟨by simp only [PyData.canLay0]; exact strOk_of h, by simp only [PyData.depth]; exact Nat.le_refl _⟩
theorem DOk.word {z : Str} (h : PyData.strOk z = true) : DOk (.str z) 0 := ⟨by simp only [PyData.canLay0]; exact h, by simp only [PyData.depth]; exact Nat.le_refl _⟩
theorem DOk.mono {d : PyData} {n m : Nat} (h : DOk d n) (l : n ≤ m) : DOk d m := ⟨h.1, Nat.le_trans h.2 l⟩
theorem dp_all {α : Type} {K : PySem.W.Frag} {H : Hp} {g : α → V} {f : α → PyData} : ∀ {xs : List α}, (∀ x ∈ xs, Dp K H (g x) (f x)) → DpAll K H (xs.map g) (xs.map f)
  | [], _ => .nil
  | x :: xs, h => .cons (h x (List.mem_cons_self ..)) (dp_all fun y hy => h y (List.mem_cons_of_mem _ hy))
theorem eqvAll_map {α : Type} [DecidableEq α] {f : α → PyData} (h : ∀ x y, PyData.eqv (f x) (f y) = decide (x = y)) : ∀ xs ys : List α, PyData.eqvAll (xs.map f) (ys.map f) = decide (xs = ys)
  | [], [] => by simp [PyData.eqvAll]
  | [], y :: ys => by simp [PyData.eqvAll]
  | x :: xs, [] => by simp [PyData.eqvAll]
  | x :: xs, y :: ys => by
    simp only [List.map_cons, PyData.eqvAll, h x y, eqvAll_map h xs ys]
    by_cases e : x = y <;> by_cases e2 : xs = ys <;> simp [e, e2]
theorem dp_tups {α : Type} {K : PySem.W.Frag} {H : Hp} {g : α → List V} {f : α → List PyData} (h : ∀ x, DpAll K H (g x) (f x)) : ∀ {vs : List V} {xs : List α}, TpsAt g H vs xs → DpAll K H vs (xs.map fun x => .tuple (f x))
  | [], [], _ => .nil
  | _ :: _, x :: _, ⟨⟨t, e, ht⟩, r⟩ => by
    subst e
    exact .cons (.tup (.inl (.inl ht)) (h x)) (dp_tups h r)
  | [], _ :: _, h => h.elim
  | _ :: _, [], h => h.elim
theorem cutV_mid (xs : List V) (a b : Nat) : cutV xs (some (a : Int)) (some (b : Int)) = (xs.drop a).take (b - a) := by
  unfold cutV
  rw [HT.sIx_nat, HT.sIx_nat]
  show (xs.drop (min a xs.length)).take (min b xs.length - min a xs.length) = _
  by_cases ha : a ≤ xs.length
  · rw [show min a xs.length = a from Nat.min_eq_left ha]
    by_cases hb : b ≤ xs.length
    · rw [show min b xs.length = b from Nat.min_eq_left hb]
    · rw [show min b xs.length = xs.length from Nat.min_eq_right (by omega), List.take_of_length_le (by rw [List.length_drop]; omega), List.take_of_length_le (by rw [List.length_drop]; omega)]
  · rw [show min a xs.length = xs.length from Nat.min_eq_right (by omega), List.drop_eq_nil_of_le (Nat.le_refl _), List.drop_eq_nil_of_le (show xs.length ≤ a by omega), List.take_nil, List.take_nil]
theorem least_nat {p : Nat → Prop} (h : ∃ a, p a) : ∃ a, p a ∧ ∀ a', a' < a → ¬ p a' := by
  obtain ⟨a, ha⟩ := h
  induction a using Nat.strongRecOn with
  | _ a ih =>
    by_cases z : ∃ a', a' < a ∧ p a'
    · obtain ⟨a', h1, h2⟩ := z
      exact ih a' h1 h2
    · exact ⟨a, ha, fun a' h1 h2 => z ⟨a', h1, h2⟩⟩
/-! ### places, as values -/
def plV : Option Nat → V
  | none => .non
  | some p => .int (p : Int)
def plD : Option Nat → PyData
  | none => .none
  | some p => .int (p : Int)
def arV (y : Nat × Option Nat) : List V := [.str (sOf [y.1]), plV y.2]
theorem pl_flat : ∀ pl : List (Option Nat), (pl.map plV).all flatV = true
  | [] => rfl
  | none :: r => pl_flat r
  | some p :: r => pl_flat r
theorem pl_eq (y : Option Nat) (b : Nat) : eqV (plV y) (.int (b : Int)) = decide (y = some b) := by
  cases y with
  | none => rfl
  | some p =>
    show ((p : Int) == (b : Int)) = _
    by_cases e : p = b
    · rw [e]
      simp
    · have : ¬ ((p : Int) = (b : Int)) := fun z => e (Int.ofNat.inj z)
      simp [e, this]
theorem pl_in (pl : List (Option Nat)) (b : Nat) : inV (.int (b : Int)) (pl.map plV) = decide (some b ∈ pl) := by
  unfold inV
  induction pl with
  | nil => rfl
  | cons y r ih =>
    rw [List.map_cons, List.any_cons, ih, pl_eq]
    by_cases e : y = some b
    · simp [e]
    · have e' : ¬ some b = y := fun z => e z.symm
      simp [e, e']
theorem plD_eqv (x y : Option Nat) : PyData.eqv (plD x) (plD y) = decide (x = y) := by
  cases x with
  | none =>
    cases y with
    | none => simp [plD, PyData.eqv]
    | some q => simp [plD, PyData.eqv]
  | some p =>
    cases y with
    | none => simp [plD, PyData.eqv]
    | some q =>
      simp only [plD, PyData.eqv]
      by_cases e : p = q
      · simp [e]
      · have : ¬ ((p : Int) = (q : Int)) := fun z => e (Int.ofNat.inj z)
        simp [e, this]
theorem plD_ok (x : Option Nat) : DOk (plD x) 0 := by
  cases x with
  | none => exact DOk.none
  | some p => exact DOk.int _
theorem dp_pl {K : PySem.W.Frag} {H : Hp} (x : Option Nat) : Dp K H (plV x) (plD x) := by
  cases x with
  | none => exact .non
  | some p => exact .int _
theorem arr0_at {l : List Nat} {i : Nat} (h : i < l.length) : (arr0 l)[i]? = some (l[i], some i) := by
  unfold arr0
  rw [List.getElem?_map, List.getElem?_range h]
  show some (l.getD i 0, some i) = _
  rw [List.getD_eq_getElem?_getD, List.getElem?_eq_getElem h]
  rfl
theorem arr0_len (l : List Nat) : (arr0 l).length = l.length := by
  unfold arr0
  rw [List.length_map, List.length_range]
theorem arr0_bits (l : List Nat) : (arr0 l).map Prod.fst = l := by
  refine List.ext_getElem? fun i => ?_
  rw [List.getElem?_map]
  by_cases h : i < l.length
  · rw [arr0_at h, List.getElem?_eq_getElem h]
    rfl
  · rw [List.getElem?_eq_none (by rw [arr0_len]; omega), List.getElem?_eq_none (by omega)]
    rfl
/-! ### ends once -/
theorem ends_uniq {l : List Nat} {s t v : Nat} (h1 : (endsL l)[s]? = some v) (h2 : (endsL l)[t]? = some v) : s = t := by
  unfold endsL at h1 h2
  rw [List.getElem?_map] at h1 h2
  have so := occs_sorted l l.length
  cases e1 : (occs l l.length)[s]? with
  | none =>
    rw [e1] at h1
    cases h1
  | some a =>
    cases e2 : (occs l l.length)[t]? with
    | none =>
      rw [e2] at h2
      cases h2
    | some b =>
      rw [e1] at h1
      rw [e2] at h2
      have h1 : a + 12 = v := Option.some.inj h1
      have h2 : b + 12 = v := Option.some.inj h2
      obtain ⟨l1, g1⟩ := List.getElem?_eq_some_iff.mp e1
      obtain ⟨l2, g2⟩ := List.getElem?_eq_some_iff.mp e2
      have pw := List.pairwise_iff_getElem.mp so
      rcases Nat.lt_trichotomy s t with z | z | z
      · have := pw s t l1 l2 z
        omega
      · exact z
      · have := pw t s l2 l1 z
        omega
/-! ### what was sent, block by block -/
theorem sent_at {ws : List (List Nat)} {Q : List Nat} (h : ∀ w ∈ ws, NoMk w) {k : Nat} (hk : k + 1 < ws.length) : k + 1 < (endsL (blk ws ++ Q)).length ∧ 12 ≤ (endsL (blk ws ++ Q)).getD k 0 ∧ (endsL (blk ws ++ Q)).getD (k + 1) 0 = (endsL (blk ws ++ Q)).getD k 0 + (ws.getD (k + 1) []).length + 12 ∧ ((blk ws ++ Q).drop ((endsL (blk ws ++ Q)).getD k 0 - 12)).take ((ws.getD (k + 1) []).length + 24) = mkL ++ (ws.getD (k + 1) [] ++ mkL) := by
  obtain ⟨a1, a2⟩ := ends_blk (Q := Q) h (i := k) (by omega)
  obtain ⟨b1, b2⟩ := ends_blk (Q := Q) h (i := k + 1) hk
  have lm : mkL.length = 12 := rfl
  have t1 := blk_take (ws := ws) (i := k) (by omega)
  have t2 := blk_take (ws := ws) (i := k + 1) hk
  have l1 : (blk (ws.take (k + 1))).length = (blk (ws.take k)).length + (ws.getD k []).length + 12 := by
    rw [t1, List.length_append, List.length_append, lm]
    omega
  have l2 : (blk (ws.take (k + 1 + 1))).length = (blk (ws.take (k + 1))).length + (ws.getD (k + 1) []).length + 12 := by
    rw [t2, List.length_append, List.length_append, lm]
    omega
  refine ⟨b1, by omega, by omega, ?_⟩
  have e1 : blk ws ++ Q = (blk (ws.take k) ++ ws.getD k []) ++ ((mkL ++ (ws.getD (k + 1) [] ++ mkL)) ++ (blk (ws.drop (k + 2)) ++ Q)) := by
    have := blk_app (ws.take (k + 2)) (ws.drop (k + 2))
    rw [List.take_append_drop] at this
    rw [this, t2, t1]
    simp only [List.append_assoc]
  rw [a2, l1, show (blk (ws.take k)).length + (ws.getD k []).length + 12 - 12 = (blk (ws.take k) ++ ws.getD k []).length by rw [List.length_append]; omega, e1, List.drop_left, show (ws.getD (k + 1) []).length + 24 = (mkL ++ (ws.getD (k + 1) [] ++ mkL)).length by rw [List.length_append, List.length_append, lm]; omega, List.take_left]
/-- a block that came whole: its stretch -/
theorem came_str {ws : List (List Nat)} {Q : List Nat} {x : Ar} (h : ∀ w ∈ ws, NoMk w) {k i : Nat} (hk : k + 1 < ws.length) (ok : OkR (blk ws ++ Q) x) (e : ((x.map Prod.snd).drop i).take ((ws.getD (k + 1) []).length + 24) = (List.range ((ws.getD (k + 1) []).length + 24)).map fun j => some ((endsL (blk ws ++ Q)).getD k 0 - 12 + j)) :
    ∃ s, (endsL (x.map Prod.fst))[s]? = some (i + 12) ∧ (endsL (x.map Prod.fst))[s + 1]? = some (i + 24 + (ws.getD (k + 1) []).length) ∧ (sttL (x.map Prod.fst))[s]? = some (ws.getD (k + 1) [] ++ mkL) ∧ (x.map Prod.snd)[i + 12 + (ws.getD (k + 1) []).length]? = some (some ((endsL (blk ws ++ Q)).getD (k + 1) 0 - 12)) ∧ (x.map Prod.snd)[i]? = some (some ((endsL (blk ws ++ Q)).getD k 0 - 12)) := by
  obtain ⟨_, s2, s3, s4⟩ := sent_at (Q := Q) h hk
  have at_ : ∀ j, j < (ws.getD (k + 1) []).length + 24 → (x.map Prod.snd)[i + j]? = some (some ((endsL (blk ws ++ Q)).getD k 0 - 12 + j)) := fun j hj => by
    have e1 : (((x.map Prod.snd).drop i).take ((ws.getD (k + 1) []).length + 24))[j]? = some (some ((endsL (blk ws ++ Q)).getD k 0 - 12 + j)) := by
      rw [e, List.getElem?_map, List.getElem?_range hj]
      rfl
    rw [List.getElem?_take_of_lt hj, List.getElem?_drop] at e1
    exact e1
  rcases came_bits ok e with ⟨cb, _⟩ | cb
  · rw [s4] at cb
    have p0 := at_ 0 (by omega)
    rw [Nat.add_zero, Nat.add_zero] at p0
    have pw := at_ (12 + (ws.getD (k + 1) []).length) (by omega)
    generalize hw : ws.getD (k + 1) [] = w' at *
    have li : i < x.length := by
      have := (List.getElem?_eq_some_iff.mp p0).1
      rw [List.length_map] at this
      exact this
    generalize hB : x.map Prod.fst = B at *
    have lB : B.length = x.length := by
      rw [← hB, List.length_map]
    have nm : NoMk w' := by
      rw [← hw, List.getD_eq_getElem?_getD, List.getElem?_eq_getElem hk]
      exact h _ (List.getElem_mem hk)
    have eB : B = B.take i ++ (mkL ++ (w' ++ (mkL ++ (B.drop i).drop (w'.length + 24)))) := by
      have h1 : B.drop i = (B.drop i).take (w'.length + 24) ++ (B.drop i).drop (w'.length + 24) := (List.take_append_drop _ _).symm
      have h2 : B = B.take i ++ B.drop i := (List.take_append_drop _ _).symm
      rw [cb] at h1
      simp only [List.append_assoc] at h1
      rw [← h1, List.take_append_drop]
    have lX : (B.take i).length = i := by
      rw [List.length_take]
      omega
    obtain ⟨s, q1, q2, q3⟩ := stt_inner (X := B.take i) (Y := (B.drop i).drop (w'.length + 24)) nm
    rw [← eB, lX] at q2
    rw [← eB] at q1 q3
    obtain ⟨_, _, r3, _, _⟩ := str_at q1
    have g0 : (endsL B).getD s 0 = i + 12 := by
      rw [List.getD_eq_getElem?_getD, q2]
      rfl
    have g1 : (sttL B).getD s [] = w' ++ mkL := by
      rw [List.getD_eq_getElem?_getD, q3]
      rfl
    rw [g0, g1, List.length_append] at r3
    have r3 : w'.length + 12 = (endsL B).getD (s + 1) 0 - (i + 12) := r3
    refine ⟨s, q2, ?_, q3, ?_, p0⟩
    · rw [List.getD_eq_getElem?_getD, List.getElem?_eq_getElem q1] at r3
      have r3 : w'.length + 12 = (endsL B)[s + 1] - (i + 12) := r3
      rw [List.getElem?_eq_getElem q1]
      congr 1
      omega
    · rw [show i + 12 + w'.length = i + (12 + w'.length) by omega, pw, s3]
      congr 2
      omega
  · omega
end Fp

set_option Elab.async false
set_option linter.all false
set_option maxRecDepth 100000
set_option maxHeartbeats 4000000
/-! Promises of defs that hold where nothing is being shown around the call (no guard stands): they may ask repr. The law is entered so. -/
namespace FpG
open PySem PySem.Spec PyProof.Rows L2 Fp
/-- a def's promise, no guard around it -/
structure FnG (P : Program) (w : World) (K : PySem.W.Frag) (mg : Str → Option Value) (base : Heap) (CX : CXT) (k : Nat) (f : Addr) (fd : FuncData) (ps : List Str) (sp : Sp) : Prop where
  many : ∀ vs H Q E, sp vs H Q E → vs.length = ps.length
  goes : ∀ (A : Around) (out : List Env) (s : Shared) (H : Hp) (args : Args) (us : List Value) (vs : List V) (Q : VK) (E : XK), A.guards = some [] → Room k A → Env0 P w K mg base A out s H → BindsTo s fd args (ps.zip us) → Vals vs us → sp vs H Q E →
    codeAny (model P w) A (.call (.ref f) args) (CR CX out P w H s Q E) s
section
variable {P : Program} {w : World} {K : PySem.W.Frag} {mg : Str → Option Value} {base : Heap} {CX : CXT} {k : Nat} {f : Addr} {fd : FuncData} {ps : List Str} {sp : Sp}
theorem FnG.of (F : FnOk P w K mg base CX k f fd ps sp) : FnG P w K mg base CX k f fd ps sp := ⟨F.len, fun A out s H args us vs Q E _ => F.run A out s H args us vs Q E⟩
theorem fnG_of {name qual : Str} {params : Arguments} {body : List Stmt} {scope : Scope} {dV kV doc pm cdv ct oc : Value} {an od : Option Addr} {osl : Array (Option Value)} {N : List Str}
    (at_ : K.lookup f = some ⟨oc, od, .func (PySem.W.fnOf name qual params body scope dV kV doc pm an cdv ct), osl⟩) (code : PySem.W.codeIn K cdv qual = true) (S : FnScope N ps scope) (many : ∀ vs H Q E, sp vs H Q E → vs.length = ps.length)
    (hb : ∀ (A : Around) (out : List Env) (s : Shared) (H : Hp) (vs : List V) (Q : VK) (E : XK), (A.deeper (envOfC qual scope s.heap.objs.size f cdv)).guards = some [] → Room k (A.deeper (envOfC qual scope s.heap.objs.size f cdv)) → sp vs H Q E →
      ∃ t, PSs (cxOf CX P w K mg base N qual scope f cdv A out s H E) body t ∧ t { nx := fun _ H' => Q .non H', rt := Q } (start N vs) H) :
    FnG P w K mg base CX (k + 1) f (PySem.W.fnOf name qual params body scope dV kV doc pm an cdv ct) ps sp := by
  refine ⟨many, fun A out s H args us vs Q E gd room env bind rel want => ?_⟩
  have kin : K.In s.heap := env.mod.kin.keeps fun c o e => (env.bs c o e).1
  have nolim : s.heap.NoLimit := env.mod.nolimit.keeps fun c o e => (env.bs c o e).1
  have kinds : ∀ y ∈ ps.zip us, scope.names.lookup y.1 = some .local ∨ (scope.names.lookup y.1 = some .cell ∧ ((cellsFrom (s.heap.objs.size + 1) scope.names []).lookup y.1).isSome = true) := by
    rintro ⟨n, v⟩ hy
    exact (S.par n (List.of_mem_zip hy).1).imp id fun c => ⟨c, PySem.W.cellsFrom_some _ _ _ (.inl c)⟩
  refine codeAny_call_function room.depth (kin _ _ at_) rfl S.co S.gen rfl (PySem.W.codeRec_of kin code) (bind _ _ _ _ ?_)
  refine wpAny_newFunctionEnv_cells S.kind kinds fun ev ee s1 ic => ?_
  subst ee
  refine ⟨nolim.keeps ic.toInCall.keep, codeAny_func ?_⟩
  obtain ⟨t, pt, qt⟩ := hb A out s H vs Q E gd (room.deeper _) want
  have inv := inv_start (CX := CX) (E := E) S room.hd env (many _ _ _ _ want) rel ic
  refine wpAny_mono (pt.run [] s1 (start N vs) H _ inv qt) (fun fl s' hs => ?_) fun e s' hs => hs
  cases fl with
  | ret u =>
    obtain ⟨v, σ', H', J, rv, q⟩ := hs
    exact ⟨v, H', J.os, J.bare, J.base, J.hok, rv, q⟩
  | next =>
    obtain ⟨σ', H', J, q⟩ := hs
    exact ⟨.non, H', J.os, J.bare, J.base, J.hok, rfl, q⟩
  | brk => exact hs.elim fun _ z => z.elim fun _ z => z.2.elim
  | cont => exact hs.elim fun _ z => z.elim fun _ z => z.2.elim
/-- from the def's place in the text -/
theorem okG {x qual : Str} {st : Stmt} {N : List Str} (F : Fun K x qual st f fd) (S : FnScope N ps (defScope st)) (many : ∀ vs H Q E, sp vs H Q E → vs.length = ps.length)
    (hb : ∀ (cdv : Value) (A : Around) (out : List Env) (s : Shared) (H : Hp) (vs : List V) (Q : VK) (E : XK), (A.deeper (envOfC qual (defScope st) s.heap.objs.size f cdv)).guards = some [] → Room k (A.deeper (envOfC qual (defScope st) s.heap.objs.size f cdv)) → sp vs H Q E →
      ∃ t, PSs (cxOf CX0 P w K mg base N qual (defScope st) f cdv A out s H E).nox (defBody st) t ∧ t { nx := fun _ H' => Q .non H', rt := Q } (start N vs) H) : FnG P w K mg base CX0 (k + 1) f fd ps sp := by
  obtain ⟨oc, od, kV, doc, pm, an, cdv, ct, osl, rfl, at_, code⟩ := F.ex
  refine fnG_of at_ code S many fun A out s H vs Q E gd room want => ?_
  obtain ⟨t, pt, qt⟩ := hb cdv A out s H vs Q E gd room want
  exact ⟨t, pt.nox, qt⟩
end
section
variable {X : Cx} {CX : CXT} {k : Nat} {f C : Addr} {fd : FuncData} {ps : List Str} {sp : Sp} {dvs : List V} {ds : List Value} {E : XK} {x m : Str} {p pos apos : Pos} {e o : Expr} {es : List Expr} {ta : TE} {t : TA}
theorem run_G {pins : List (Addr × Obj)} {σ : L2.St} {H : Hp} {s : Shared} {Q : VK} {us : List Value} {vs : List V} (F : FnG X.prog X.w X.K X.mg X.base CX k f fd ps sp) (gd : X.A.guards = some []) (room : Room k X.A) (bn : Binds X.K fd ps ds) (dv : Vals dvs ds) (ps_ : Passes CX X E)
    (I : Inv X pins σ H s) (r : Vals vs us) (want : sp (vs ++ dvs) H Q E) : wpAny (model X.prog X.w) X.A (call (.ref f) us) (EP X pins σ Q) X.xe s := by
  have rr : Vals (vs ++ dvs) (us ++ ds) := r.append dv
  have ln : (us ++ ds).length = ps.length := rr.length.symm.trans (F.many _ _ _ _ want)
  refine wpAny_call (codeAny_mono (F.goes X.A X.stack s H ⟨us, []⟩ (us ++ ds) (vs ++ dvs) Q E gd room I.env0 (bn s us I.kIn ln) rr want) fun res s' h => ?_)
  cases res with
  | error ex => exact ps_ pins σ H s ex s' I h
  | ok fl =>
    cases fl with
    | ret u => exact I.after h
    | next => exact h.elim
    | brk => exact h.elim
    | cont => exact h.elim
theorem pe_callG (F : FnG X.prog X.w X.K X.mg X.base CX k f fd ps sp) (gd : X.A.guards = some []) (room : Room k X.A) (gl : Gl X x) (at_ : X.mg x = some (.ref f)) (kp : PySem.W.keepIn X.K (.ref f) = true) (bn : Binds X.K fd ps ds) (dv : Vals dvs ds) (ps_ : Passes CX X E)
    (ha : PA X (e :: es) t) (nd : (x == ("__debug__" : Str)) = false := by decide) (ee : starEach (e :: es) X.env = (false, eval e X.env) :: starEach es X.env := by rfl) (pl : (backTo pos (starEach es X.env)).any (·.1) = false := by rfl) :
    PE X (.Call (.Name x p) (e :: es) [] pos) (tCall sp dvs E t) := by
  refine ⟨fun pins s σ H Q I want => ?_⟩
  refine wpAny_Call_Name_kw (ld_glob I gl at_ ?_ nd)
  exact PySem.W.callWith_K (h₀ := X.base) I.ok.mod.kin kp (thn (ha.run pos pins s σ H _ I want) fun us s1 ⟨vs, H1, I1, r, q⟩ => ⟨I1.kIn, run_G F gd room bn dv ps_ I1 r q⟩) ee pl
theorem pe_callG0 (F : FnG X.prog X.w X.K X.mg X.base CX k f fd ps sp) (gd : X.A.guards = some []) (room : Room k X.A) (gl : Gl X x) (at_ : X.mg x = some (.ref f)) (kp : PySem.W.keepIn X.K (.ref f) = true) (bn : Binds X.K fd ps ds) (dv : Vals dvs ds) (ps_ : Passes CX X E)
    (nd : (x == ("__debug__" : Str)) = false := by decide) : PE X (.Call (.Name x p) [] [] pos) (tCall sp dvs E tNil) :=
  ⟨fun pins s σ H Q I want => wpAny_Call_Name_kw (ld_glob I gl at_ (PySem.W.callWith_K0 I.kIn kp (run_G (us := []) F gd room bn dv ps_ I .nil want)) nd)⟩
/-- repr of data -/
def rRepr (K : PySem.W.Frag) : List V → Hp → VK → Prop := fun xs H Q => ∃ (x : V) (d : PyData), xs = [x] ∧ Dp K H x d ∧ d.showable = true ∧ PyData.canLay0 d = true ∧ d.depth ≤ 50 ∧ d.shown.length ≤ sizeLine ∧ Q (.str d.shown) H
theorem call_reprD (gd : X.A.guards = some []) (room : Room k X.A) : CallR X (.builtin "repr") (rRepr X.K) := by
  intro pins s σ H xs us Q I r h
  obtain ⟨x, d, rfl, dp, sh, lay, dep, len, q⟩ := h
  obtain ⟨u, rfl, rx⟩ := vals1 r
  obtain ⟨as, rd⟩ := Dp.reads I d x u dp rx
  have un := room.units
  cases rd with
  | none => exact PySem.P.repr_of_none ⟨.str (PyData.shown .none), H, I.tok _, ⟨_, rfl⟩, q⟩
  | bool b => exact PySem.P.repr_of_bool ⟨.str (PyData.shown (.bool b)), H, I.tok _, ⟨_, by cases b <;> rfl⟩, q⟩
  | int i t => exact PySem.P.repr_of_int (by simpa [PyData.showable] using sh) ⟨.str (PyData.shown (.int i)), H, I.tok _, ⟨_, rfl⟩, q⟩
  | str z t => exact PySem.P.repr_of_str ⟨.str (PyData.shown (.str z)), H, I.tok _, ⟨_, rfl⟩, q⟩ len
  | list h1 h2 h3 h4 => exact PySem.repr_of_reads' (.list h1 h2 h3 h4) sh (PyData.noDict_hsm (PyData.hasDict_of_canLay _ lay)) gd (by omega) (fun _ _ e => e) (fun h' u tk hk => ⟨.str _, H, I.kept hk, ⟨u, rfl⟩, q⟩) len
  | tuple h1 h2 h3 h4 => exact PySem.repr_of_reads' (.tuple h1 h2 h3 h4) sh (PyData.noDict_hsm (PyData.hasDict_of_canLay _ lay)) gd (by omega) (fun _ _ e => e) (fun h' u tk hk => ⟨.str _, H, I.kept hk, ⟨u, rfl⟩, q⟩) len
  | dict h1 h2 h3 h4 h5 => simp [PyData.canLay0] at lay
end
end FpG

set_option Elab.async false
set_option linter.all false
set_option maxRecDepth 100000
set_option maxHeartbeats 4000000
/-! The law entered with no guard around it, tables of code objects beside. -/
namespace FpG
open PySem PySem.Spec PyProof.Rows L2 Fp LamX
/-- what is tracked at the law's call: the tables, and the script where it isn't the module's own -/
def begH (K : PySem.W.Frag) (a : Addr) (vs : List Value) (ns : List Int) (T : List Addr) : Hp := fun b =>
  if b ∈ T then some (.tbl #[]) else if b = a ∧ K.lookup a = none then some (.frz { cls := .type "list", data := .seq vs.toArray } (.lst (ns.map V.int))) else none
section
variable {K : PySem.W.Frag} {a : Addr} {vs : List Value} {ns : List Int} {T : List Addr}
theorem begH_T {b : Addr} (h : b ∈ T) : begH K a vs ns T b = some (.tbl #[]) := if_pos h
theorem begH_a (h : a ∉ T) (n : K.lookup a = none) : begH K a vs ns T a = some (.frz { cls := .type "list", data := .seq vs.toArray } (.lst (ns.map V.int))) := by
  unfold begH
  rw [if_neg h, if_pos ⟨rfl, n⟩]
theorem begH_cases (b : Addr) : (b ∈ T ∧ begH K a vs ns T b = some (.tbl #[])) ∨ (b ∉ T ∧ b = a ∧ K.lookup a = none ∧ begH K a vs ns T b = some (.frz { cls := .type "list", data := .seq vs.toArray } (.lst (ns.map V.int)))) ∨ begH K a vs ns T b = none := by
  unfold begH
  by_cases h : b ∈ T
  · exact .inl ⟨h, if_pos h⟩
  · by_cases h2 : b = a ∧ K.lookup a = none
    · exact .inr (.inl ⟨h, h2.1, h2.2, by rw [if_neg h, if_pos h2]⟩)
    · exact .inr (.inr (by rw [if_neg h, if_neg h2]))
end
theorem law_G {P : Program} {w : World} {K : PySem.W.Frag} {mg mb : Str → Option Value} {CX : CXT} {k : Nat} {fa a : Addr} {cs : List (Addr × Addr)} {fd : FuncData} {x : Str} {sp : Sp} {s : Shared} {vs : List Value} {ns : List Int}
    (kin : K.In s.heap) (gns : s.heap.Ns mainGlobals mg) (bns : s.heap.Ns builtinsNs mb) (bok : ∀ y : Str, y ≠ "__name__" → mb y = bootBuiltins y) (nolim : s.heap.NoLimit) (ng : s.gens = #[])
    (tabs : ∀ c ∈ cs, s.heap.get? c.2 = some { cls := .none, data := .fields #[] }) (tabsK : ∀ c ∈ cs, K.lookup c.2 = none) (heads : ∀ c ∈ cs, PySem.W.CodeHd s.heap c.1 c.2)
    (bm : ∃ (m : Addr) (ob : Obj), mg "__builtins__" = some (.ref m) ∧ m ≠ builtinsNs ∧ s.heap.get? m = some ob ∧ ob.cls = .type "module" ∧ ob.dict = some builtinsNs ∧ ob.data = .plain)
    (scr : s.heap.get? a = some { cls := .type "list", data := .seq vs.toArray }) (nums : IntsAre vs ns) (few : ns.length ≤ sizeLine) (room : Room k callerA)
    (F : ∀ base : Heap, K.In base → base.Ns mainGlobals mg → (∀ c ∈ cs, TabB base mg c.1 c.2) → FnG P w K mg base CX k fa fd [x] sp) (bind : ∀ (s : Shared) (u : Value), BindsTo s fd ⟨[u], []⟩ [(x, u)])
    (want : ∀ H : Hp, (∀ c ∈ cs, H c.2 = some (.tbl #[])) → SqL K H a (ns.map V.int) → sp [.ref a] H (fun v _ => v = .bl true) fun _ _ _ => False) (noX : ∀ H e s', CX [] H s (fun _ _ _ => False) e s' → False) :
    codeAny (model P w) callerA (.call (.ref fa) ⟨[.ref a], []⟩) (fun r s' => r = .ok (.ret (.bool true)) ∧ OldK s.heap s'.heap ∧ s'.os = s.os ∧ AllBare s'.gens) s := by
  have rel := vals_ints nums
  have lenV := nums.length
  generalize hT : cs.map Prod.snd = T
  have tabT : ∀ b ∈ T, s.heap.get? b = some { cls := .none, data := .fields #[] } := fun b hb => by
    rw [← hT] at hb
    obtain ⟨c, hc, rfl⟩ := List.mem_map.mp hb
    exact tabs c hc
  have kT : ∀ b ∈ T, K.lookup b = none := fun b hb => by
    rw [← hT] at hb
    obtain ⟨c, hc, rfl⟩ := List.mem_map.mp hb
    exact tabsK c hc
  have inT : ∀ c ∈ cs, c.2 ∈ T := fun c hc => by
    rw [← hT]
    exact List.mem_map.mpr ⟨c, hc, rfl⟩
  have aT : a ∉ T := fun z => by
    have z := (tabT a z).symm.trans scr
    have z : Data.fields #[] = Data.seq vs.toArray _ := congrArg Obj.data (Option.some.inj z)
    cases z
  have small : (ns.map V.int).length ≤ sizeLine := by
    rw [List.length_map]
    exact few
  generalize hB : begH K a vs ns T = H
  have cas : ∀ b, (b ∈ T ∧ H b = some (.tbl #[])) ∨ (b ∉ T ∧ b = a ∧ K.lookup a = none ∧ H b = some (.frz { cls := .type "list", data := .seq vs.toArray } (.lst (ns.map V.int)))) ∨ H b = none := fun b => by
    rw [← hB]
    exact begH_cases b
  have hok : HOk P w H s.heap := fun b o e => by
    rcases cas b with ⟨h1, h2⟩ | ⟨h1, h2, h3, h4⟩ | h1
    · rw [h2] at e
      cases e
      exact tabT b h1
    · rw [h4] at e
      cases e
      subst h2
      exact ⟨scr, small, vs, _, rel, scr⟩
    · rw [h1] at e
      cases e
  have sq : SqL K H a (ns.map V.int) := by
    cases z : K.lookup a with
    | some o =>
      have e := (kin a o z).symm.trans scr
      cases e
      exact .inr ⟨_, vs.toArray, _, z, rfl, rfl, rfl, by rw [List.size_toArray, lenV]; exact few, by simpa using rel⟩
    | none =>
      refine .inl (.inr ⟨{ cls := .type "list", data := .seq vs.toArray }, ?_⟩)
      rw [← hB]
      exact begH_a aT z
  -- what is no list and no table isn't tracked
  have free : ∀ {b : Addr} {o : Obj}, s.heap.get? b = some o → (∀ us n, o.data ≠ .seq us n) → o.data ≠ .fields #[] → H b = none := fun {b o} e n1 n2 => by
    rcases cas b with ⟨h1, _⟩ | ⟨_, h2, _, _⟩ | h1
    · rw [tabT b h1] at e
      cases e
      exact (n2 rfl).elim
    · subst h2
      rw [scr] at e
      cases e
      exact (n1 _ _ rfl).elim
    · exact h1
  have freeD : ∀ {b : Addr} {o : Obj} {es : Array DictEntry} {ep : Nat}, s.heap.get? b = some o → o.data = .dict es ep → H b = none := fun {b o es ep} e d => free e (fun us n z => by rw [d] at z; cases z) fun z => by
    rw [d] at z
    cases z
  have freeK : ∀ b o, K.lookup b = some o → H b = none := fun b o e => by
    rcases cas b with ⟨h1, _⟩ | ⟨_, h2, h3, _⟩ | h1
    · rw [kT b h1] at e
      cases e
    · subst h2
      rw [h3] at e
      cases e
    · exact h1
  have nsB : ∀ {b : Addr} {m : Str → Option Value}, s.heap.Ns b m → (hidT s.heap H).Ns b m := by
    rintro b m ⟨o, es, ep, e, d, rest⟩
    exact ⟨o, es, ep, hidT_get e (freeD e d), d, rest⟩
  have kinB : K.In (hidT s.heap H) := fun b o e => hidT_get (kin b o e) (freeK b o e)
  have md : L2.Mod K mg (hidT s.heap H) := by
    obtain ⟨mc, l1, l2⟩ := nolim
    exact ⟨kinB, nsB gns, ⟨mb, nsB bns, bok⟩, ⟨mc, nsB l1, l2⟩⟩
  have tb : ∀ c ∈ cs, TabB (hidT s.heap H) mg c.1 c.2 := fun c hc => by
    have tc := tabs c hc
    refine ⟨?_, ?_, fun z => ?_⟩
    · obtain ⟨o, us, fi, tf, fl, tg, inF, tx, tt, e1, r1, r2, r3, r4, r5, r6, r7, r8, ne⟩ := heads c hc
      refine ⟨o, us, fi, tf, fl, tg, inF, tx, tt, hidT_get e1 (free e1 (fun vs n z => ?_) fun z => ?_), r1, r2, r3, r4, r5, r6, r7, r8, ne⟩
      · rw [r2] at z
        cases z
      · rw [r2] at z
        cases z
        simp at r3
    · obtain ⟨m, ob, b1, b2, b3, b4, b5, b6⟩ := bm
      refine ⟨m, ob, b1, b2, fun z => ?_, fun z => ?_, hidT_get b3 (free b3 (fun us n z => by rw [b6] at z; cases z) fun z => by rw [b6] at z; cases z), b4, b5, b6⟩
      · obtain ⟨o, es, ep, e, d, _⟩ := gns
        rw [z, e] at b3
        cases b3
        rw [d] at b6
        cases b6
      · rw [z, tc] at b3
        cases b3
        cases b6
    · obtain ⟨o, es, ep, e, d, _⟩ := gns
      rw [z, tc] at e
      cases e
      cases d
  have env : Env0 P w K mg (hidT s.heap H) callerA [] s H := by
    refine ⟨rfl, md, fun b o e => of_hidT e, Nat.le_of_eq (hidT_size _ _), trivial, fun b hb => ?_, hok, .of_eq ng⟩
    have hb : b ∈ ([] : List Addr) := hb
    cases hb
  refine codeAny_mono ((F _ kinB (nsB gns) tb).goes callerA [] s H ⟨[.ref a], []⟩ [.ref a] [.ref a] _ _ rfl room env (bind s (.ref a)) (.cons rfl .nil) (want H (fun c hc => by rw [← hB]; exact begH_T (inT c hc)) sq)) fun r s' h => ?_
  cases r with
  | error e => exact (noX H e s' h).elim
  | ok fl =>
    cases fl with
    | next => exact h.elim
    | brk => exact h.elim
    | cont => exact h.elim
    | ret u =>
      obtain ⟨v, H', os, bare, un, hok', rv, rfl⟩ := h
      obtain rfl : u = Value.bool true := rv
      have stays : ∀ b o, b ∉ T → s.heap.get? b = some o → s'.heap.get? b = some o := fun b o nb e => by
        rcases cas b with ⟨h1, _⟩ | ⟨_, h2, _, h4⟩ | h1
        · exact absurd h1 nb
        · obtain ⟨g1, _⟩ := hok b _ h4
          obtain ⟨g2, _⟩ := hok' b _ (un.frzs b _ _ h4)
          exact (e.symm.trans g1) ▸ g2
        · exact un.keep b o e h1 (fun z => by have z : b ∈ ([] : List Addr) := z; cases z) (by simp)
      have grows : ∀ b ∈ T, ∃ more : Array Value, s'.heap.get? b = some { cls := .none, data := .fields more } := fun b hb => by
        obtain ⟨more, z⟩ := un.tbls b #[] (by rw [← hB]; exact begH_T hb)
        exact ⟨_, hok' b _ z⟩
      refine ⟨rfl, ⟨fun b o e => ?_, fun b o e => ?_⟩, os, bare⟩
      · by_cases hb : b ∈ T
        · have hb' := hb
          rw [← hT] at hb'
          obtain ⟨c, hc, rfl⟩ := List.mem_map.mp hb'
          obtain ⟨more, hm⟩ := grows _ hb
          rw [tabs c hc] at e
          cases e
          exact .inr (.inl ⟨((heads c hc).tab (tabs c hc)).isCodeTable, rfl, #[], more, rfl, by rw [Array.empty_append]; exact hm⟩)
        · exact .inl (stays b o hb e)
      · by_cases hb : b ∈ T
        · obtain ⟨more, hm⟩ := grows b hb
          exact ⟨_, hm⟩
        · exact ⟨o, stays b o hb e⟩
/-- what the law promises, no guard around it -/
def LawG (l : PySem.W.OpenLaw) (w : World) (K : PySem.W.Frag) (CX : CXT) (k n : Nat) (x : Str) (mg : Str → Option Value) (fa : Addr) (h : Heap) : Prop :=
  ∃ (fd : FuncData) (cs : List (Addr × Addr)) (sp : Sp), ((∀ c ∈ cs, h.get? c.2 = some { cls := .none, data := .fields #[] }) ∧ (∀ c ∈ cs, K.lookup c.2 = none) ∧ ∀ c ∈ cs, PySem.W.CodeHd h c.1 c.2) ∧ (∀ (s : Shared) (u : Value), BindsTo s fd ⟨[u], []⟩ [(x, u)]) ∧
    (∀ (H : Hp) (a : Addr) (ns : List Int), ns.length ≤ n → (∀ c ∈ cs, H c.2 = some (.tbl #[])) → SqL K H a (ns.map V.int) → sp [.ref a] H (fun v _ => v = .bl true) fun _ _ _ => False) ∧
    ∀ base : Heap, K.In base → base.Ns mainGlobals mg → (∀ c ∈ cs, TabB base mg c.1 c.2) → FnG l.prog w K mg base CX k fa fd [x] sp
theorem walk_G {l : PySem.W.OpenLaw} {n k : Nat} {q : Program} {loose : List Str} {XP : (Str → Option Value) → Heap → Prop} {YP : World → Heap → Prop} {d : DefRec} {K : Params → PySem.W.Frag} {CX : World → CXT} {x : Str}
    (most : l.most = some n) (small : n ≤ sizeLine) (nodef : d.params.defaults = []) (room : Room k callerA) (frag : ∀ (w : World) (h : Heap), YP w h → (K w.params).In h)
    (F : ∀ (w : World) (mg : Str → Option Value) (fa : Addr) (h : Heap), YP w h → (K w.params).In h → h.Ns mainGlobals mg → mg d.name = some (.ref fa) → LawG l w (K w.params) (CX w) k n x mg fa h)
    (noX : ∀ (w : World) (H : Hp) (s : Shared) (e : Value) (s' : Shared), CX w [] H s (fun _ _ _ => False) e s' → False) : PySem.W.WalkO q loose XP YP l.row.toRowW d [] (fun f vs => PySem.call f vs) := by
  refine Att.attach_callB most nodef fun w s0 s mg mb fa o pm cd doc a vs ns G Y _ _ _ atL scr nums len _ ng => ?_
  obtain ⟨fd, cs, sp, ⟨t1, t2, t3⟩, bind, want, go⟩ := F w mg fa _ Y (frag w _ Y) G.T.g atL
  exact law_G (frag w _ Y) G.T.g G.T.b G.T.builtins G.T.nolimit ng t1 t2 t3 G.T.bmain scr nums (Nat.le_trans len small) room go bind (fun H h1 h2 => want H a ns len h1 h2) fun H e s' => noX w H s e s'
end FpG

set_option Elab.async false
set_option linter.all false
set_option maxRecDepth 100000
set_option maxHeartbeats 4000000
/-! What repr shows of data, and how long it is; pieces gathered (for k35, k36). -/
namespace Fp
open PySem L2 PyProof.Rows
/-! ### what is shown -/
def ShOk (d : PyData) (n : Nat) : Prop := d.showable = true ∧ d.shown.length ≤ n
theorem ShOk.mono {d : PyData} {n m : Nat} (h : ShOk d n) (l : n ≤ m) : ShOk d m := ⟨h.1, Nat.le_trans h.2 l⟩
theorem ShOk.none : ShOk .none 4 := ⟨by simp only [PyData.showable], by decide⟩
theorem ShOk.bool (b : Bool) : ShOk (.bool b) 5 := ⟨by simp only [PyData.showable], by cases b <;> decide⟩
theorem small_show : ∀ n : Nat, n < 128 → (decide ((n : Int).natAbs.log2 < 1920) = true) ∧ (PyData.shown (.int (n : Int))).length ≤ 4 := by decide +kernel
theorem ShOk.nat {n : Nat} (h : n < 128) : ShOk (.int (n : Int)) 4 := ⟨by simp only [PyData.showable]; exact (small_show n h).1, (small_show n h).2⟩
theorem ShOk.str {l : List Nat} (h : Codes l) : ShOk (.str (sOf l)) (10 * l.length + 2) := by
  refine ⟨by simp only [PyData.showable], ?_⟩
  have := StrLaws.reprText_len (sOf l) (fun c hc => by
    rw [sOf_list] at hc
    have := h c hc
    omega)
  rw [sOf_len] at this
  simp only [PyData.shown]
  exact this
theorem shown_sum {α : Type} (f : α → PyData) (n : Nat) : ∀ {xs : List α}, (∀ x ∈ xs, ShOk (f x) n) → PyData.showableAll (xs.map f) = true ∧ ((PyData.shownAll (xs.map f)).map (·.length)).sum ≤ n * xs.length ∧ (PyData.shownAll (xs.map f)).length = xs.length
  | [], _ => ⟨by simp only [List.map_nil, PyData.showableAll], by simp [PyData.shownAll], by simp [PyData.shownAll]⟩
  | x :: xs, h => by
    obtain ⟨h1, h2, h3⟩ := shown_sum f n (xs := xs) fun y hy => h y (List.mem_cons_of_mem _ hy)
    obtain ⟨g1, g2⟩ := h x (List.mem_cons_self ..)
    refine ⟨by simp only [List.map_cons, PyData.showableAll, g1, h1, Bool.and_true], ?_, ?_⟩
    · simp only [List.map_cons, PyData.shownAll, List.sum_cons, List.length_cons]
      rw [Nat.mul_succ]
      omega
    · simp only [List.map_cons, PyData.shownAll, List.length_cons, h3]
theorem ShOk.list {α : Type} {f : α → PyData} {n : Nat} {xs : List α} (h : ∀ x ∈ xs, ShOk (f x) n) : ShOk (.list (xs.map f)) (n * xs.length + 2 * xs.length + 3) := by
  obtain ⟨h1, h2, h3⟩ := shown_sum f n h
  refine ⟨by simp only [PyData.showable]; exact h1, ?_⟩
  have := listText_len_le (PyData.shownAll (xs.map f))
  simp only [PyData.shown]
  omega
theorem ShOk.tuple {α : Type} {f : α → PyData} {n : Nat} {xs : List α} (h : ∀ x ∈ xs, ShOk (f x) n) : ShOk (.tuple (xs.map f)) (n * xs.length + 2 * xs.length + 3) := by
  obtain ⟨h1, h2, h3⟩ := shown_sum f n h
  refine ⟨by simp only [PyData.showable]; exact h1, ?_⟩
  have := tupleText_len_le (PyData.shownAll (xs.map f))
  simp only [PyData.shown]
  omega
/-- a tuple of a few parts -/
def ShAll (ds : List PyData) (n : Nat) : Prop := PyData.showableAll ds = true ∧ ((PyData.shownAll ds).map (·.length)).sum ≤ n ∧ (PyData.shownAll ds).length = ds.length
theorem ShAll.nil : ShAll [] 0 := ⟨by simp only [PyData.showableAll], by simp [PyData.shownAll], by simp [PyData.shownAll]⟩
theorem ShAll.cons {d : PyData} {ds : List PyData} {n m : Nat} (h : ShOk d n) (k : ShAll ds m) : ShAll (d :: ds) (n + m) := by
  obtain ⟨h1, h2⟩ := h
  obtain ⟨k1, k2, k3⟩ := k
  refine ⟨by simp only [PyData.showableAll, h1, k1, Bool.and_true], ?_, by simp only [PyData.shownAll, List.length_cons, k3]⟩
  simp only [PyData.shownAll, List.map_cons, List.sum_cons]
  omega
theorem ShAll.tup {ds : List PyData} {n : Nat} (k : ShAll ds n) : ShOk (.tuple ds) (n + 2 * ds.length + 3) := by
  obtain ⟨k1, k2, k3⟩ := k
  refine ⟨by simp only [PyData.showable]; exact k1, ?_⟩
  have := tupleText_len_le (PyData.shownAll ds)
  simp only [PyData.shown]
  omega
/-! ### fields -/
theorem pe_fldK {X : Cx} {K : PySem.W.Frag} (hK : X.K = K) {e : Expr} {f : Str} {pos : Pos} {ta : TE} (he : PE X e ta) (hb : attributeBase e f X.env (eval e X.env) = eval e X.env) : PE X (.Attribute e f pos) (tFld K ta f) := by
  subst hK
  exact pe_fld he hb
theorem lk0 {a : Str} {v : V} {r : List (Str × V)} : List.lookup a ((a, v) :: r) = some v := by simp [List.lookup]
theorem lkS {a b : Str} {v : V} {r : List (Str × V)} (h : (a == b) = false) : List.lookup a ((b, v) :: r) = List.lookup a r := by
  rw [List.lookup, h]
theorem putF_hit {f : Str} {v x : V} {r : List (Str × V)} : putF f v ((f, x) :: r) = (f, v) :: r := by
  unfold putF
  rw [if_pos rfl]
theorem putF_miss {f g : Str} {v x : V} {r : List (Str × V)} (h : ¬ g = f) : putF f v ((g, x) :: r) = (g, x) :: putF f v r := by
  rw [putF, if_neg h]
theorem putF_nil {f : Str} {v : V} : putF f v [] = [(f, v)] := rfl
/-! ### places, each once -/
theorem pigeon : ∀ (m : Nat) (l : List Nat), l.Nodup → (∀ x ∈ l, x < m) → l.length ≤ m ∧ (l.length = m → ∀ n, n < m → n ∈ l)
  | 0, l, _, h => by
    cases l with
    | nil => exact ⟨Nat.le_refl _, fun _ n hn => absurd hn (Nat.not_lt_zero _)⟩
    | cons x r => exact absurd (h x (List.mem_cons_self ..)) (Nat.not_lt_zero _)
  | m + 1, l, nd, h => by
    by_cases hm : m ∈ l
    · have nd' : (l.erase m).Nodup := nd.erase m
      have h' : ∀ x ∈ l.erase m, x < m := fun x hx => by
        have h1 := h x (List.mem_of_mem_erase hx)
        have h2 : x ≠ m := (nd.mem_erase_iff.mp hx).1
        omega
      obtain ⟨i1, i2⟩ := pigeon m (l.erase m) nd' h'
      have le := List.length_erase_of_mem hm
      have pos : 0 < l.length := List.length_pos_of_mem hm
      refine ⟨by omega, fun e n hn => ?_⟩
      by_cases z : n = m
      · rw [z]
        exact hm
      · exact List.mem_of_mem_erase (i2 (by omega) n (by omega))
    · have h' : ∀ x ∈ l, x < m := fun x hx => by
        have h1 := h x hx
        have h2 : x ≠ m := fun z => hm (z ▸ hx)
        omega
      obtain ⟨i1, _⟩ := pigeon m l nd h'
      exact ⟨by omega, fun e => by omega⟩
theorem pigeon2 : ∀ (m : Nat) (l : List Nat), l.Nodup → (∀ n, n < m → n ∈ l) → m ≤ l.length
  | 0, _, _, _ => Nat.zero_le _
  | m + 1, l, nd, h => by
    have hm := h m (by omega)
    have := pigeon2 m (l.erase m) (nd.erase m) fun n hn => nd.mem_erase_iff.mpr ⟨by omega, h n (by omega)⟩
    have le := List.length_erase_of_mem hm
    have pos : 0 < l.length := List.length_pos_of_mem hm
    omega
/-! ### pieces by their numbers -/
abbrev Pc := List (Nat × List Nat)
def pcK (ks : Pc) : List (Key × V) := ks.map fun x => (.inl (x.1 : Int), .str (sOf x.2))
def pcGet (ks : Pc) (n : Nat) : Option (List Nat) := (ks.find? fun x => decide (x.1 = n)).map (·.2)
theorem pcK_val (ks : Pc) (n : Nat) : valV (pcK ks) (.inl (n : Int)) = (pcGet ks n).map fun b => V.str (sOf b) := by
  induction ks with
  | nil => rfl
  | cons x r ih =>
    by_cases e : x.1 = n
    · have e1 : valV (pcK (x :: r)) (.inl (n : Int)) = some (.str (sOf x.2)) := valV_pos (by show (Sum.inl (x.1 : Int) : Key) = Sum.inl (n : Int); rw [e])
      have e2 : pcGet (x :: r) n = some x.2 := by
        unfold pcGet
        rw [List.find?_cons_of_pos (by simpa using e)]
        rfl
      rw [e1, e2]
      rfl
    · have e1 : valV (pcK (x :: r)) (.inl (n : Int)) = valV (pcK r) (.inl (n : Int)) := valV_neg (fun z => e (Int.ofNat.inj (Sum.inl.inj z)))
      have e2 : pcGet (x :: r) n = pcGet r n := by
        unfold pcGet
        rw [List.find?_cons_of_neg (by simpa using e)]
      rw [e1, e2, ih]
def putP (ks : Pc) (n : Nat) (b : List Nat) : Pc := if (pcGet ks n).isNone = true then ks ++ [(n, b)] else ks
theorem pcK_put {ks : Pc} {n : Nat} (b : List Nat) (h : pcGet ks n = none) : putK (pcK ks) (.inl (n : Int)) (.str (sOf b)) = pcK (ks ++ [(n, b)]) := by
  rw [putK_new _ (by rw [pcK_val, h]; rfl)]
  unfold pcK
  rw [List.map_append]
  rfl
theorem pcGet_none {ks : Pc} {n : Nat} : pcGet ks n = none ↔ n ∉ ks.map Prod.fst := by
  unfold pcGet
  rw [Option.map_eq_none_iff, List.find?_eq_none]
  constructor
  · intro h z
    obtain ⟨x, hx, e⟩ := List.mem_map.mp z
    exact absurd (decide_eq_true e) (h x hx)
  · intro h x hx z
    exact h (List.mem_map.mpr ⟨x, hx, of_decide_eq_true z⟩)
def PcOk (m : Nat) (ks : Pc) : Prop := (ks.map Prod.fst).Nodup ∧ ∀ x ∈ ks, x.1 < m ∧ Bts x.2 ∧ x.2.length ≤ 100
theorem PcOk.nil (m : Nat) : PcOk m [] := ⟨List.nodup_nil, fun _ h => nomatch h⟩
theorem PcOk.put {m n : Nat} {ks : Pc} {b : List Nat} (h : PcOk m ks) (hn : n < m) (hb : Bts b) (lb : b.length ≤ 100) : PcOk m (putP ks n b) := by
  unfold putP
  split
  · rename_i z
    have z := Option.isNone_iff_eq_none.mp z
    refine ⟨?_, fun x hx => ?_⟩
    · rw [List.map_append, List.map_cons, List.map_nil]
      refine List.nodup_append.mpr ⟨h.1, ?_, fun a ha c hc => ?_⟩
      · exact List.nodup_cons.mpr ⟨(fun y => nomatch y), List.nodup_nil⟩
      · rw [List.mem_singleton.mp hc]
        intro e
        have e : a = n := e
        rw [e] at ha
        exact pcGet_none.mp z ha
    · rcases List.mem_append.mp hx with y | y
      · exact h.2 x y
      · rw [List.mem_singleton.mp y]
        exact ⟨hn, hb, lb⟩
  · exact h
theorem PcOk.len {m : Nat} {ks : Pc} (h : PcOk m ks) : ks.length ≤ m := by
  have := (pigeon m (ks.map Prod.fst) h.1 fun x hx => by
    obtain ⟨y, hy, rfl⟩ := List.mem_map.mp hx
    exact (h.2 y hy).1).1
  rw [List.length_map] at this
  exact this
def lackL (m : Nat) (ks : Pc) : List Nat := (List.range m).filter fun n => (pcGet ks n).isNone
def joinL (m : Nat) (ks : Pc) : List Nat := ((List.range m).map fun n => (pcGet ks n).getD []).flatten
theorem lack_nil {m : Nat} {ks : Pc} : lackL m ks = [] ↔ ∀ n, n < m → n ∈ ks.map Prod.fst := by
  unfold lackL
  rw [List.filter_eq_nil_iff]
  constructor
  · intro h n hn
    have := h n (List.mem_range.mpr hn)
    by_cases z : n ∈ ks.map Prod.fst
    · exact z
    · exact absurd (by rw [pcGet_none.mpr z]; rfl) this
  · intro h n hn z
    exact pcGet_none.mp (Option.isNone_iff_eq_none.mp z) (h n (List.mem_range.mp hn))
theorem full_iff {m : Nat} {ks : Pc} (h : PcOk m ks) : ks.length < m ↔ lackL m ks ≠ [] := by
  have pg := pigeon m (ks.map Prod.fst) h.1 fun x hx => by
    obtain ⟨y, hy, rfl⟩ := List.mem_map.mp hx
    exact (h.2 y hy).1
  rw [List.length_map] at pg
  constructor
  · intro lt z
    have := pigeon2 m (ks.map Prod.fst) h.1 (lack_nil.mp z)
    rw [List.length_map] at this
    omega
  · intro ne
    by_cases z : ks.length < m
    · exact z
    · exact absurd (lack_nil.mpr (pg.2 (by omega))) ne
theorem lack_lt {m n : Nat} {ks : Pc} (h : n ∈ lackL m ks) : n < m := List.mem_range.mp (List.mem_filter.mp h).1
theorem lack_len (m : Nat) (ks : Pc) : (lackL m ks).length ≤ m := by
  have := List.length_filter_le (fun n => (pcGet ks n).isNone) (List.range m)
  rw [List.length_range] at this
  exact this
theorem get_ok {m n : Nat} {ks : Pc} {b : List Nat} (h : PcOk m ks) (e : pcGet ks n = some b) : Bts b ∧ b.length ≤ 100 := by
  unfold pcGet at e
  cases z : ks.find? fun x => decide (x.1 = n) with
  | none =>
    rw [z] at e
    cases e
  | some x =>
    rw [z] at e
    have e : x.2 = b := Option.some.inj e
    have := h.2 x (List.mem_of_find?_eq_some z)
    rw [← e]
    exact this.2
theorem join_ok {m : Nat} {ks : Pc} (h : PcOk m ks) : Bts (joinL m ks) ∧ (joinL m ks).length ≤ 100 * m := by
  have one : ∀ n, Bts ((pcGet ks n).getD []) ∧ ((pcGet ks n).getD []).length ≤ 100 := fun n => by
    cases e : pcGet ks n with
    | none => exact ⟨Bts.nil, Nat.zero_le _⟩
    | some b => exact get_ok h e
  have all : ∀ k, Bts (((List.range k).map fun n => (pcGet ks n).getD []).flatten) ∧ (((List.range k).map fun n => (pcGet ks n).getD []).flatten).length ≤ 100 * k := by
    intro k
    induction k with
    | zero => exact ⟨Bts.nil, Nat.le_refl _⟩
    | succ k ih =>
      rw [List.range_succ, List.map_append, List.flatten_append]
      show Bts (_ ++ ([(pcGet ks k).getD []] : List (List Nat)).flatten) ∧ (_ ++ ([(pcGet ks k).getD []] : List (List Nat)).flatten).length ≤ _
      rw [List.flatten_cons, List.flatten_nil, List.append_nil, List.length_append]
      have := (one k).2
      exact ⟨ih.1.app (one k).1, by omega⟩
  exact all m
/-! ### a gathering in the heap -/
def gatF (m : Nat) (d : Addr) : List (Str × V) := [(Str.ofString "many", .int (m : Int)), (Str.ofString "pieces", .ref d)]
def GatAt (C : Addr) (H : Hp) (p d : Addr) (m : Nat) (ks : Pc) : Prop := (∃ dx, H p = some (.ins C dx (gatF m d))) ∧ H d = some (.dK (pcK ks))
theorem gat_many (m : Nat) (d : Addr) : (gatF m d).lookup (Str.ofString "many") = some (.int (m : Int)) := lk0
theorem gat_pieces (m : Nat) (d : Addr) : (gatF m d).lookup (Str.ofString "pieces") = some (.ref d) := by
  unfold gatF
  rw [lkS (by decide +kernel)]
  exact lk0
theorem gat_no {m : Nat} {d : Addr} {x : Str} (h1 : (x == Str.ofString "many") = false) (h2 : (x == Str.ofString "pieces") = false) : (gatF m d).lookup x = none := by
  unfold gatF
  rw [lkS h1, lkS h2]
  rfl
end Fp

set_option Elab.async false
set_option linter.all false
set_option maxRecDepth 100000
set_option maxHeartbeats 4000000
/-! Things near by, under a bag of four; settings (for k37 and on). -/
namespace Fp
open PySem L2 PyProof.Rows
section
variable {X : Cx}
theorem call_str_bool : CallR X (.type "str") (fun xs H Q => ∃ b, xs = [.bl b] ∧ Q (.str (if b = true then Str.ofString "True" else Str.ofString "False")) H) := by
  intro pins s σ H xs us Q I r h
  obtain ⟨b, rfl, q⟩ := h
  obtain ⟨u, rfl, rx⟩ := vals1 r
  cases rx
  refine PySem.P.str_of_bool ⟨.str (if b = true then Str.ofString "True" else Str.ofString "False"), H, I.tok _, ⟨_, rfl⟩, q⟩
end
theorem It.bx4 {b : Addr} {H H' : Hp} {v : V} (h : It b H v) (hb : Bag4 H b) (x : Bx4 b H H') : It b H' v := by
  rcases h with h | ⟨a, xs, rfl, n, e⟩ | ⟨a, xs, rfl, e⟩
  · exact .inl h
  · exact .inr (.inl ⟨a, xs, rfl, n, x.2 _ _ n e⟩)
  · exact .inr (.inr ⟨a, xs, rfl, x.2 _ _ (hb.tup e) e⟩)
theorem Tg.bx4 {b : Addr} {H H' : Hp} {v : V} (h : Tg b H v) (hb : Bag4 H b) (x : Bx4 b H H') : Tg b H' v := by
  rcases h with h | ⟨a, xs, rfl, n, e⟩ | ⟨a, xs, rfl, e, l, k⟩
  · exact .inl h
  · exact .inr (.inl ⟨a, xs, rfl, n, x.2 _ _ n e⟩)
  · exact .inr (.inr ⟨a, xs, rfl, x.2 _ _ (hb.tup e) e, l, fun u hu => (k u hu).bx4 hb x⟩)
theorem It.same {b : Addr} {H H' : Hp} {v : V} (h : It b H v) (x : Same H H') : It b H' v := by
  rcases h with h | ⟨a, xs, rfl, n, e⟩ | ⟨a, xs, rfl, e⟩
  · exact .inl h
  · exact .inr (.inl ⟨a, xs, rfl, n, x _ _ e⟩)
  · exact .inr (.inr ⟨a, xs, rfl, x _ _ e⟩)
theorem Tg.same {b : Addr} {H H' : Hp} {v : V} (h : Tg b H v) (x : Same H H') : Tg b H' v := by
  rcases h with h | ⟨a, xs, rfl, n, e⟩ | ⟨a, xs, rfl, e, l, k⟩
  · exact .inl h
  · exact .inr (.inl ⟨a, xs, rfl, n, x _ _ e⟩)
  · exact .inr (.inr ⟨a, xs, rfl, x _ _ e, l, fun u hu => (k u hu).same x⟩)
theorem Tg.non {b : Addr} {H : Hp} : Tg b H .non := .inl (.inl rfl)
theorem Tg.bl {b : Addr} {H : Hp} (x : Bool) : Tg b H (.bl x) := .inl (.inr (.inl ⟨x, rfl⟩))
theorem Tg.int {b : Addr} {H : Hp} (i : Int) : Tg b H (.int i) := .inl (.inr (.inr (.inl ⟨i, rfl⟩)))
theorem Tg.word {b : Addr} {H : Hp} {z : Str} (h : z.length ≤ 100000) : Tg b H (.str z) := .inl (.inr (.inr (.inr ⟨z, rfl, h⟩)))
theorem Tg.lst {b a : Addr} {H : Hp} {xs : List V} (n : a ≠ b) (e : H a = some (.lst xs)) : Tg b H (.ref a) := .inr (.inl ⟨a, xs, rfl, n, e⟩)
theorem Tg.tup {b a : Addr} {H : Hp} {xs : List V} (e : H a = some (.tup xs)) (l : xs.length ≤ 1000) (h : ∀ u ∈ xs, It b H u) : Tg b H (.ref a) := .inr (.inr ⟨a, xs, rfl, e, l, h⟩)
theorem all_nil {p : V → Prop} : ∀ u ∈ ([] : List V), p u := fun _ h => nomatch h
theorem all_cons {p : V → Prop} {x : V} {xs : List V} (h1 : p x) (h2 : ∀ u ∈ xs, p u) : ∀ u ∈ x :: xs, p u := fun u hu => by
  rcases List.mem_cons.mp hu with e | e
  · rw [e]
    exact h1
  · exact h2 u e
theorem all_app {p : V → Prop} {xs ys : List V} (h1 : ∀ u ∈ xs, p u) (h2 : ∀ u ∈ ys, p u) : ∀ u ∈ xs ++ ys, p u := fun u hu => by
  rcases List.mem_append.mp hu with e | e
  · exact h1 u e
  · exact h2 u e
theorem all_cut {p : V → Prop} {xs : List V} (h : ∀ u ∈ xs, p u) (lo hi : Option Int) : ∀ u ∈ cutV xs lo hi, p u := fun u hu => h u (cutV_mem hu)
/-- one of a list of things -/
theorem atI_all {p : V → Prop} {xs : List V} (h : ∀ u ∈ xs, p u) {j : Int} (j0 : 0 ≤ j) (j1 : j < xs.length) : ∃ u, atI xs j = some u ∧ p u := by
  obtain ⟨k, rfl⟩ := Int.eq_ofNat_of_zero_le j0
  have hk : k < xs.length := by omega
  exact ⟨xs[k], atI_nat (List.getElem?_eq_getElem hk), h _ (List.getElem_mem hk)⟩
/-! ### settings -/
structure Stt where
  br : Nat
  ev : Nat
  sp : Nat
  md : Bool
def stV (s : Stt) : List V := [.int (s.br : Int), .int (s.ev : Int), .int (s.sp : Int), .bl s.md]
def stDD (s : Stt) : PyData := .tuple [.int (s.br : Int), .int (s.ev : Int), .int (s.sp : Int), .bool s.md]
def SOk (s : Stt) : Prop := 8 ≤ s.br ∧ s.br ≤ 64 ∧ (s.ev = 1 ∨ s.ev = 2 ∨ s.ev = 4) ∧ 1 ≤ s.sp ∧ s.sp ≤ 4
def agr (s t : Stt) : Stt := ⟨min s.br t.br, min s.ev t.ev, min s.sp t.sp, s.md && t.md⟩
theorem agr_ok {s t : Stt} (h : SOk s) (k : SOk t) : SOk (agr s t) := by
  obtain ⟨h1, h2, h3, h4, h5⟩ := h
  obtain ⟨k1, k2, k3, k4, k5⟩ := k
  refine ⟨?_, ?_, ?_, ?_, ?_⟩
  · show 8 ≤ min s.br t.br
    omega
  · show min s.br t.br ≤ 64
    omega
  · show min s.ev t.ev = 1 ∨ min s.ev t.ev = 2 ∨ min s.ev t.ev = 4
    omega
  · show 1 ≤ min s.sp t.sp
    omega
  · show min s.sp t.sp ≤ 4
    omega
theorem agr_comm (s t : Stt) : agr s t = agr t s := by
  unfold agr
  rw [Nat.min_comm, Nat.min_comm s.ev, Nat.min_comm s.sp, Bool.and_comm]
theorem agr_self (s : Stt) : agr s s = s := by
  unfold agr
  rw [Nat.min_self, Nat.min_self, Nat.min_self, Bool.and_self]
theorem agr_left (s t : Stt) : agr (agr s t) s = agr s t := by
  unfold agr
  have e1 : min (min s.br t.br) s.br = min s.br t.br := by omega
  have e2 : min (min s.ev t.ev) s.ev = min s.ev t.ev := by omega
  have e3 : min (min s.sp t.sp) s.sp = min s.sp t.sp := by omega
  have e4 : (s.md && t.md && s.md) = (s.md && t.md) := by cases s.md <;> cases t.md <;> rfl
  simp only [e1, e2, e3, e4]
theorem dp_st {K : PySem.W.Frag} {H : Hp} {a : Addr} {s : Stt} (h : H a = some (.tup (stV s))) : Dp K H (.ref a) (stDD s) := .tup (.inl (.inl h)) (.cons (.int _) (.cons (.int _) (.cons (.int _) (.cons (.bl _) .nil))))
theorem stDD_ok (s : Stt) (h : SOk s) : DOk (stDD s) 40 ∧ ShOk (stDD s) 100000 := by
  obtain ⟨_, h2, h3, _, h5⟩ := h
  refine ⟨(DOk.tuple (α := PyData) (f := id) (n := 0) (xs := [.int (s.br : Int), .int (s.ev : Int), .int (s.sp : Int), .bool s.md]) fun x hx => ?_).mono (by decide), ((ShAll.cons (ShOk.nat (n := s.br) (by omega)) (ShAll.cons (ShOk.nat (n := s.ev) (by omega)) (ShAll.cons (ShOk.nat (n := s.sp) (by omega)) (ShAll.cons (ShOk.bool s.md) ShAll.nil)))).tup).mono (by show 28 ≤ 100000; decide)⟩
  simp only [List.mem_cons, List.not_mem_nil, or_false] at hx
  rcases hx with rfl | rfl | rfl | rfl
  · exact DOk.int _
  · exact DOk.int _
  · exact DOk.int _
  · exact DOk.bool _
theorem st_it {b : Addr} {H : Hp} (s : Stt) : ∀ u ∈ stV s, It b H u := all_cons (.inl (.inr (.inr (.inl ⟨_, rfl⟩)))) (all_cons (.inl (.inr (.inr (.inl ⟨_, rfl⟩)))) (all_cons (.inl (.inr (.inr (.inl ⟨_, rfl⟩)))) (all_cons (.inl (.inr (.inl ⟨_, rfl⟩))) all_nil)))
/-- whole numbers from one to another -/
def whole (v : V) (lo hi : Int) : Bool := match v with
  | .int n => decide (lo ≤ n) && decide (n ≤ hi)
  | _ => false
def isBl (v : V) : Bool := match v with
  | .bl _ => true
  | _ => false
def setL (xs : List V) : Bool := match xs with
  | [x0, x1, x2, x3] => whole x0 8 64 && (whole x1 1 2 || whole x1 4 4) && whole x2 1 4 && isBl x3
  | _ => false
/-- whether a thing is a setting -/
def SetR (H : Hp) (v : V) (r : Bool) : Prop := (∃ a xs, v = .ref a ∧ H a = some (.tup xs) ∧ r = setL xs) ∨ ((∀ a xs, v = .ref a → H a ≠ some (.tup xs)) ∧ r = false)
theorem setR_some {b : Addr} {H : Hp} {v : V} (h : Tg b H v) : ∃ r, SetR H v r := by
  rcases h with h | ⟨a, xs, rfl, n, e⟩ | ⟨a, xs, rfl, e, l, k⟩
  · refine ⟨false, .inr ⟨fun a xs z => ?_, rfl⟩⟩
    rcases h with rfl | ⟨_, rfl⟩ | ⟨_, rfl⟩ | ⟨_, rfl, _⟩ <;> cases z
  · refine ⟨false, .inr ⟨fun c ys z => ?_, rfl⟩⟩
    cases z
    rw [e]
    intro y
    cases y
  · exact ⟨_, .inl ⟨a, xs, rfl, e, rfl⟩⟩
theorem setL_st {s : Stt} (h : SOk s) : setL (stV s) = true := by
  obtain ⟨h1, h2, h3, h4, h5⟩ := h
  show (whole (.int (s.br : Int)) 8 64 && (whole (.int (s.ev : Int)) 1 2 || whole (.int (s.ev : Int)) 4 4) && whole (.int (s.sp : Int)) 1 4 && isBl (.bl s.md)) = true
  unfold whole isBl
  simp only [Bool.and_true, Bool.and_eq_true, Bool.or_eq_true, decide_eq_true_eq]
  omega
end Fp

set_option Elab.async false
set_option linter.all false
set_option maxRecDepth 100000
set_option maxHeartbeats 4000000
set_option pp.maxSteps 3000
namespace K37
open PySem PySem.Spec PyProof.Rows L2 Fp
def topS (i : Nat) : Stmt := PySem.Challenge.pw_farpage_k37_settings.main.body.getD i (.Pass ⟨0, 0, 0, 0⟩)
abbrev s_is_whole : Stmt := topS 1
abbrev N_is_whole : List Str := ["thing"]
abbrev P_is_whole : List Str := ["thing"]
theorem sc_is_whole : FnScope N_is_whole P_is_whole (defScope s_is_whole) := ⟨rfl, rfl, rfl, by decide +kernel, rfl, by decide +kernel, by decide +kernel⟩
abbrev s_is_setting : Stmt := topS 8
abbrev N_is_setting : List Str := ["thing", "breadth", "every", "speed", "mends"]
abbrev P_is_setting : List Str := ["thing"]
theorem sc_is_setting : FnScope N_is_setting P_is_setting (defScope s_is_setting) := ⟨rfl, rfl, rfl, by decide +kernel, rfl, by decide +kernel, by decide +kernel⟩
abbrev s_agreed : Stmt := topS 9
abbrev N_agreed : List Str := ["one", "other"]
abbrev P_agreed : List Str := ["one", "other"]
theorem sc_agreed : FnScope N_agreed P_agreed (defScope s_agreed) := ⟨rfl, rfl, rfl, by decide +kernel, rfl, by decide +kernel, by decide +kernel⟩
abbrev s_bag : Stmt := topS 11
abbrev N_bag : List Str := ["_law_script", "_law_at", "_law_cell", "_law_prime"]
abbrev P_bag : List Str := ["_law_script", "_law_at"]
theorem sc_bag : FnScope N_bag P_bag (defScope s_bag) := ⟨rfl, rfl, rfl, by decide +kernel, rfl, by decide +kernel, by decide +kernel⟩
abbrev s_take : Stmt := topS 12
abbrev N_take : List Str := ["_law_bag_here", "_law_many", "_law_digit"]
abbrev P_take : List Str := ["_law_bag_here", "_law_many"]
theorem sc_take : FnScope N_take P_take (defScope s_take) := ⟨rfl, rfl, rfl, by decide +kernel, rfl, by decide +kernel, by decide +kernel⟩
abbrev s_near : Stmt := topS 13
abbrev N_near : List Str := ["_law_bag_here", "_law_thing", "_law_some"]
abbrev P_near : List Str := ["_law_bag_here", "_law_thing"]
theorem sc_near : FnScope N_near P_near (defScope s_near) := ⟨rfl, rfl, rfl, by decide +kernel, rfl, by decide +kernel, by decide +kernel⟩
abbrev s_bent : Stmt := topS 14
abbrev N_bent : List Str := ["_law_bag_here", "_law_thing", "_law_place", "_law_deed"]
abbrev P_bent : List Str := ["_law_bag_here", "_law_thing"]
theorem sc_bent : FnScope N_bent P_bent (defScope s_bent) := ⟨rfl, rfl, rfl, by decide +kernel, rfl, by decide +kernel, by decide +kernel⟩
abbrev s_setting : Stmt := topS 15
abbrev N_setting : List Str := ["_law_bag_here"]
abbrev P_setting : List Str := ["_law_bag_here"]
theorem sc_setting : FnScope N_setting P_setting (defScope s_setting) := ⟨rfl, rfl, rfl, by decide +kernel, rfl, by decide +kernel, by decide +kernel⟩
abbrev s_from_to : Stmt := topS 16
abbrev N_from_to : List Str := ["_law_thing", "_law_least", "_law_most"]
abbrev P_from_to : List Str := ["_law_thing", "_law_least", "_law_most"]
theorem sc_from_to : FnScope N_from_to P_from_to (defScope s_from_to) := ⟨rfl, rfl, rfl, by decide +kernel, rfl, by decide +kernel, by decide +kernel⟩
abbrev s_is_setting_l : Stmt := topS 17
abbrev N_is_setting_l : List Str := ["_law_thing"]
abbrev P_is_setting_l : List Str := ["_law_thing"]
theorem sc_is_setting_l : FnScope N_is_setting_l P_is_setting_l (defScope s_is_setting_l) := ⟨rfl, rfl, rfl, by decide +kernel, rfl, by decide +kernel, by decide +kernel⟩
abbrev s_like : Stmt := topS 18
abbrev N_like : List Str := ["_law_found", "_law_due"]
abbrev P_like : List Str := ["_law_found", "_law_due"]
theorem sc_like : FnScope N_like P_like (defScope s_like) := ⟨rfl, rfl, rfl, by decide +kernel, rfl, by decide +kernel, by decide +kernel⟩
abbrev s_lesser : Stmt := topS 19
abbrev N_lesser : List Str := ["_law_one", "_law_other"]
abbrev P_lesser : List Str := ["_law_one", "_law_other"]
theorem sc_lesser : FnScope N_lesser P_lesser (defScope s_lesser) := ⟨rfl, rfl, rfl, by decide +kernel, rfl, by decide +kernel, by decide +kernel⟩
abbrev s_law : Stmt := topS 20
abbrev N_law : List Str := ["_law_script", "_law_k", "_law_bag_here", "_law_one", "_law_other", "_law_things", "_law_thing", "_law_told", "_law_numbers", "_law_due", "_law_some", "_law_a", "_law_b"]
abbrev P_law : List Str := ["_law_script"]
theorem sc_law : FnScope N_law P_law (defScope s_law) := ⟨rfl, rfl, rfl, by decide +kernel, rfl, by decide +kernel, by decide +kernel⟩
structure Ad where
  a_is_whole : Addr
  d_is_whole : FuncData
  a_is_setting : Addr
  d_is_setting : FuncData
  a_agreed : Addr
  d_agreed : FuncData
  a_bag : Addr
  d_bag : FuncData
  a_take : Addr
  d_take : FuncData
  a_near : Addr
  d_near : FuncData
  a_bent : Addr
  d_bent : FuncData
  a_setting : Addr
  d_setting : FuncData
  a_from_to : Addr
  d_from_to : FuncData
  a_is_setting_l : Addr
  d_is_setting_l : FuncData
  a_like : Addr
  d_like : FuncData
  a_lesser : Addr
  d_lesser : FuncData
  a_law : Addr
  d_law : FuncData
  t_EVERIES : Addr
  t_LEAST_BREADTH : Tok
  t_MOST_BREADTH : Tok
  t_MOST_SPEED : Tok
  t_PARTS : Tok
structure Txt (w : World) (K : PySem.W.Frag) (mg : Str → Option Value) (base : Heap) (A : Ad) : Prop where
  F_is_whole : Fun K "is_whole" "is_whole" s_is_whole A.a_is_whole A.d_is_whole
  b_is_whole : Binds K A.d_is_whole P_is_whole []
  g_is_whole : mg "is_whole" = some (.ref A.a_is_whole)
  F_is_setting : Fun K "is_setting" "is_setting" s_is_setting A.a_is_setting A.d_is_setting
  b_is_setting : Binds K A.d_is_setting P_is_setting []
  g_is_setting : mg "is_setting" = some (.ref A.a_is_setting)
  F_agreed : Fun K "agreed" "agreed" s_agreed A.a_agreed A.d_agreed
  b_agreed : Binds K A.d_agreed P_agreed []
  g_agreed : mg "agreed" = some (.ref A.a_agreed)
  F_bag : Fun K "_law_bag" "_law_bag" s_bag A.a_bag A.d_bag
  b_bag : Binds K A.d_bag P_bag []
  g_bag : mg "_law_bag" = some (.ref A.a_bag)
  F_take : Fun K "_law_take" "_law_take" s_take A.a_take A.d_take
  b_take : Binds K A.d_take P_take []
  g_take : mg "_law_take" = some (.ref A.a_take)
  F_near : Fun K "_law_near" "_law_near" s_near A.a_near A.d_near
  b_near : Binds K A.d_near P_near []
  g_near : mg "_law_near" = some (.ref A.a_near)
  F_bent : Fun K "_law_bent" "_law_bent" s_bent A.a_bent A.d_bent
  b_bent : Binds K A.d_bent P_bent []
  g_bent : mg "_law_bent" = some (.ref A.a_bent)
  F_setting : Fun K "_law_setting" "_law_setting" s_setting A.a_setting A.d_setting
  b_setting : Binds K A.d_setting P_setting []
  g_setting : mg "_law_setting" = some (.ref A.a_setting)
  F_from_to : Fun K "_law_from_to" "_law_from_to" s_from_to A.a_from_to A.d_from_to
  b_from_to : Binds K A.d_from_to P_from_to []
  g_from_to : mg "_law_from_to" = some (.ref A.a_from_to)
  F_is_setting_l : Fun K "_law_is_setting" "_law_is_setting" s_is_setting_l A.a_is_setting_l A.d_is_setting_l
  b_is_setting_l : Binds K A.d_is_setting_l P_is_setting_l []
  g_is_setting_l : mg "_law_is_setting" = some (.ref A.a_is_setting_l)
  F_like : Fun K "_law_like" "_law_like" s_like A.a_like A.d_like
  b_like : Binds K A.d_like P_like []
  g_like : mg "_law_like" = some (.ref A.a_like)
  F_lesser : Fun K "_law_lesser" "_law_lesser" s_lesser A.a_lesser A.d_lesser
  b_lesser : Binds K A.d_lesser P_lesser []
  g_lesser : mg "_law_lesser" = some (.ref A.a_lesser)
  F_law : Fun K "law" "law" s_law A.a_law A.d_law
  g_law : mg "law" = some (.ref A.a_law)
  S_EVERIES : ∀ H : Hp, SqT K H A.t_EVERIES [.int 1, .int 2, .int 4]
  Y_EVERIES : ∃ o, K.lookup A.t_EVERIES = some o ∧ o.cls = .type "tuple" ∧ o.dict = none
  z_abs : mg "abs" = none
  z_bool : mg "bool" = none
  z_int : mg "int" = none
  z_isinstance : mg "isinstance" = none
  z_len : mg "len" = none
  z_list : mg "list" = none
  z_max : mg "max" = none
  z_min : mg "min" = none
  z_range : mg "range" = none
  z_repr : mg "repr" = none
  z_str : mg "str" = none
  z_tuple : mg "tuple" = none
  z_zip : mg "zip" = none
  c_EVERIES : mg "EVERIES" = some (.ref A.t_EVERIES)
  c_LEAST_BREADTH : mg "LEAST_BREADTH" = some (.int (8) A.t_LEAST_BREADTH)
  c_MOST_BREADTH : mg "MOST_BREADTH" = some (.int (64) A.t_MOST_BREADTH)
  c_MOST_SPEED : mg "MOST_SPEED" = some (.int (4) A.t_MOST_SPEED)
  c_PARTS : mg "PARTS" = some (.int (4) A.t_PARTS)
section
variable {P : Program} {w : World} {K : PySem.W.Frag} {mg : Str → Option Value} {base : Heap}
def spBag (K : PySem.W.Frag) : Sp := fun vs H Q _ => ∃ (a : Addr) (ns : List Int) (k : Int), vs = [.ref a, .int k] ∧ SqL K H a (ns.map V.int) ∧ 0 ≤ k ∧ k ≤ 1000 ∧
  ∀ p H', H p = none → Same H H' → Bag4 H' p → Q (.ref p) H'
def primes : List V := [.int 2147483629, .int 2147483587, .int 2147483579, .int 2147483563, .int 2147483549, .int 2147483543, .int 2147483497, .int 2147483489]
theorem prime_at {j : Int} (h0 : 0 ≤ j) (h1 : j < 8) : ∃ p : Int, atI primes j = some (.int p) ∧ 0 < p ∧ p < 2147483648 := by
  obtain ⟨k, rfl⟩ := Int.eq_ofNat_of_zero_le h0
  have hk : k < 8 := by omega
  have main : ∀ k : Nat, k < 8 → ∃ p : Int, primes[k]? = some (.int p) ∧ 0 < p ∧ p < 2147483648 := by
    intro k hk
    rcases k with _ | _ | _ | _ | _ | _ | _ | _ | k
    · exact ⟨_, rfl, by decide, by decide⟩
    · exact ⟨_, rfl, by decide, by decide⟩
    · exact ⟨_, rfl, by decide, by decide⟩
    · exact ⟨_, rfl, by decide, by decide⟩
    · exact ⟨_, rfl, by decide, by decide⟩
    · exact ⟨_, rfl, by decide, by decide⟩
    · exact ⟨_, rfl, by decide, by decide⟩
    · exact ⟨_, rfl, by decide, by decide⟩
    · omega
  obtain ⟨p, e, h2⟩ := main k hk
  exact ⟨p, atI_nat e, h2⟩
theorem ok_bag {A : Ad} (T : Txt w K mg base A) : FnOk P w K mg base CX0 1 A.a_bag A.d_bag P_bag (spBag K) := by
  refine T.F_bag.ok sc_bag (fun vs H Q E h => ?_) (fun cdv Ar outer s H vs Q E hr h => ?_)
  · obtain ⟨a, ns, k, rfl, _⟩ := h
    rfl
  · obtain ⟨a, ns, k, rfl, hS, k0, k1, q⟩ := h
    refine ⟨_, (pss_cons (ps_set (i := 2) sc_bag.nd rfl (Or.inl rfl) pe_int)
      (Evl.pss_cut (ps_if (pt_cmpR op_lt (pv 1) (pe_callB (r := fun xs H Q => ∃ p ys, xs = [.ref p] ∧ (SqL K H p ys ∨ SqT K H p ys) ∧ Q (.int ys.length) H) call_len_seq (by rfl) T.z_len PySem.boot_len (pa_cons (pv 0) pa_nil)) (nomark _))
      (pss_one (ps_set (i := 2) sc_bag.nd rfl (Or.inl rfl) (pe_callB call_abs (by rfl) T.z_abs (by decide +kernel) (pa_cons (pe_ix (r := rIxL K) ix_list (pv 0) (pv 1) (fun _ _ => rfl)) pa_nil)))) pss_nil)
      (pss_cons (ps_set (i := 3) sc_bag.nd rfl (Or.inl rfl) (pe_ix (r := rIxL K) ix_list (pe_lst (pa_cons pe_int (pa_cons pe_int (pa_cons pe_int (pa_cons pe_int (pa_cons pe_int (pa_cons pe_int (pa_cons pe_int (pa_cons pe_int pa_nil))))))))) (pe_op op_mod (pv 1) pe_int) (fun _ _ => rfl)))
      (pss_one (ps_ret (pe_lst (pa_cons (pe_op op_mul (pv 2) (pe_callTy call_int1 (by rfl) T.z_int (by decide +kernel) (pa_cons (pe_cmpR op_ge (pv 2) (pe_op op_pow pe_int pe_int) (nomark _)) pa_nil))) (pa_cons (pe_op op_mod (pe_op op_pow (pe_op op_add (pe_op op_add (pe_op op_mod (pv 2) pe_int) (pe_op op_mul pe_int (pv 1))) pe_int) pe_int) (pv 3)) (pa_cons (pv 3) (pa_cons pe_int pa_nil)))))))))), ?_⟩
    refine ⟨fun σ H' => ∃ c : Int, σ = [some (.ref a), some (.int k), some (.int c), none] ∧ 0 ≤ c ∧ H' = H, ?_, ?_⟩
    · refine ⟨_, rfl, _, rfl, _, _, rfl, .inl hS, _, _, rfl, rfl, _, rfl, ite2 (fun e => ?_) (fun e => ?_)⟩
      · have lt : k < ((ns.map V.int).length : Int) := of_decide_eq_true e
        obtain ⟨j, rfl⟩ := Int.eq_ofNat_of_zero_le k0
        have hj : j < ns.length := by
          rw [List.length_map] at lt
          omega
        have g : (ns.map V.int)[j]? = some (.int ns[j]) := by
          rw [List.getElem?_map, List.getElem?_eq_getElem hj]
          rfl
        refine ⟨_, rfl, _, rfl, _, _, _, _, rfl, rfl, hS, atI_nat g, _, rfl, ?_⟩
        exact ⟨_, rfl, by split <;> omega, rfl⟩
      · exact ⟨0, rfl, Int.le_refl _, rfl⟩
    · rintro σ H1 ⟨c, rfl, c0, rfl⟩
      refine ⟨(by show 8 ≤ sizeLine; decide), fun p hp => ⟨_, rfl, _, _, rfl, rfl, (by show (0 : Int) < 8; decide), ?_⟩⟩
      have m0 := Int.emod_nonneg k (show (8 : Int) ≠ 0 by decide)
      have m1 := Int.emod_lt_of_pos k (show (0 : Int) < 8 by decide)
      obtain ⟨pr, hpr, p0, p1⟩ := prime_at m0 m1
      refine ⟨_, _, _, _, rfl, rfl, SqL.of (upd_same (o := .lst primes)), hpr, ?_⟩
      have n0 := Int.emod_nonneg c (show (2147483647 : Int) ≠ 0 by decide)
      have n1 := Int.emod_lt_of_pos c (show (0 : Int) < 2147483647 by decide)
      refine ⟨_, rfl, _, rfl, _, _, rfl, rfl, ⟨by decide, by decide, by decide⟩, _, _, rfl, rfl, .inr ⟨_, rfl, _, _, rfl, rfl, .inr ?_, _, rfl, _, _, rfl, rfl, (by show (0 : Int) < 2147483647; decide), _, rfl, _, _, rfl, rfl, .inl ⟨by decide, by decide⟩, _, _, rfl, rfl, _, _, rfl, rfl, _, _, rfl, rfl, ⟨by decide, by decide, ?_⟩, _, rfl, _, _, rfl, rfl, p0, _, rfl, (by show 4 ≤ sizeLine; decide), fun z hz => ?_⟩⟩
      · split <;> constructor <;> decide
      · omega
      · refine q z _ (by
          cases e : H1 z with
          | none => rfl
          | some o =>
            rw [same_new hp _ _ e] at hz
            cases hz) ((same_new hp).trans (same_new hz)) ⟨_, _, pr, 0, upd_same, ?_, Int.emod_nonneg _ (by omega), ?_, p0, p1⟩
        · split <;> omega
        · have := Int.emod_lt_of_pos ((c % 2147483647 + 104729 * k + 7) ^ (5 : Int).toNat) p0
          exact Int.lt_trans this p1
def spTake : Sp := fun vs H Q _ => ∃ (b : Addr) (m : Int), vs = [.ref b, .int m] ∧ Bag4 H b ∧ 0 < m ∧ m < 1000000 ∧
  ∀ (d : Int) (H' : Hp), 0 ≤ d → d < m → Bx4 b H H' → Q (.int d) H'
theorem ok_take {A : Ad} (T : Txt w K mg base A) : FnOk P w K mg base CX0 1 A.a_take A.d_take P_take spTake := by
  refine T.F_take.ok sc_take (fun vs H Q E h => ?_) (fun cdv Ar outer s H vs Q E hr h => ?_)
  · obtain ⟨b, m, rfl, _⟩ := h
    rfl
  · obtain ⟨b, m, rfl, ⟨g, s, pr, kk, hb, g0, s0, s1, p0, p1⟩, m0, m1, q⟩ := h
    refine ⟨_, (pss_cons (ps_if (pt_cmpR op_gt (pe_ix (r := rIxL K) ix_list (pv 0) pe_int (fun _ _ => rfl)) pe_int (nomark _))
      (pss_cons (ps_set (i := 2) sc_take.nd rfl (Or.inl rfl) (pe_op op_mod (pe_ix (r := rIxL K) ix_list (pv 0) pe_int (fun _ _ => rfl)) (pv 1)))
      (pss_cons (ps_asg (pe_op op_fdiv (pe_ix (r := rIxL K) ix_list (pv 0) pe_int (fun _ _ => rfl)) (pv 1)) (pg_sub (pv 0) pe_int set_list))
      (pss_one (ps_ret (pv 2))))) pss_nil)
      (pss_cons (ps_asg (pe_op op_add (pe_ix (r := rIxL K) ix_list (pv 0) pe_int (fun _ _ => rfl)) pe_int) (pg_sub (pv 0) pe_int set_list))
      (pss_cons (ps_asg (pe_op op_mod (pe_op op_add (pe_op op_add (pe_op op_mul (pe_ix (r := rIxL K) ix_list (pv 0) pe_int (fun _ _ => rfl)) pe_int) (pe_op op_mul pe_int (pe_ix (r := rIxL K) ix_list (pv 0) pe_int (fun _ _ => rfl)))) pe_int) (pe_ix (r := rIxL K) ix_list (pv 0) pe_int (fun _ _ => rfl))) (pg_sub (pv 0) pe_int set_list))
      (pss_one (ps_ret (pe_op op_mod (pe_op op_mod (pe_op op_pow (pe_op op_fdiv (pe_ix (r := rIxL K) ix_list (pv 0) pe_int (fun _ _ => rfl)) pe_int) pe_int) pe_int) (pv 1))))))), ?_⟩
    refine ⟨_, rfl, _, _, _, _, rfl, rfl, SqL.of hb, atI_nat (j := 0) rfl, _, _, rfl, rfl, _, rfl, ite2 (fun e => ?_) (fun e => ?_)⟩
    · refine ⟨_, rfl, _, _, _, _, rfl, rfl, SqL.of hb, atI_nat (j := 0) rfl, _, rfl, _, _, rfl, rfl, m0, ?_⟩
      refine ⟨_, rfl, _, _, _, _, rfl, rfl, SqL.of hb, atI_nat (j := 0) rfl, _, rfl, _, _, rfl, rfl, ⟨m0, by omega⟩, _, rfl, _, _, _, _, rfl, rfl, hb, Evl.ixN_nat (j := 0) (by show 0 < 4; decide), ?_⟩
      refine ⟨_, rfl, ?_⟩
      exact q _ _ (Int.emod_nonneg _ (by omega)) (Int.emod_lt_of_pos _ m0) (Bx4.drawn (Int.ediv_nonneg g0 (by omega)) s0 s1 p0 p1)
    · have t0 := Int.emod_nonneg (s * 48271 + 7919 * (kk + 1) + 11) (show pr ≠ 0 by omega)
      have t1 := Int.emod_lt_of_pos (s * 48271 + 7919 * (kk + 1) + 11) p0
      refine ⟨_, rfl, _, _, _, _, rfl, rfl, SqL.of hb, atI_nat (j := 3) rfl, _, _, rfl, rfl, _, rfl, _, _, _, _, rfl, rfl, hb, Evl.ixN_nat (j := 3) (by show 3 < 4; decide), ?_⟩
      refine ⟨_, rfl, _, _, _, _, rfl, rfl, SqL.of upd_same, atI_nat (j := 1) rfl, _, _, rfl, rfl, .inr ⟨by decide, by decide⟩, _, rfl, _, _, _, _, rfl, rfl, SqL.of upd_same, atI_nat (j := 3) rfl, _, _, rfl, rfl, .inl ⟨by decide, by decide⟩, _, _, rfl, rfl, _, _, rfl, rfl, _, rfl, _, _, _, _, rfl, rfl, SqL.of upd_same, atI_nat (j := 2) rfl, _, _, rfl, rfl, p0, _, rfl, _, _, _, _, rfl, rfl, upd_same, Evl.ixN_nat (j := 1) (by show 1 < 4; decide), ?_⟩
      refine ⟨_, rfl, _, _, _, _, rfl, rfl, SqL.of upd_same, atI_nat (j := 1) rfl, _, _, rfl, rfl, ⟨by decide, by decide⟩, _, _, rfl, rfl, ⟨by decide, by decide, ?_⟩, _, _, rfl, rfl, (by show (0 : Int) < 2147483629; decide), _, rfl, _, _, rfl, rfl, m0, ?_⟩
      · omega
      · refine q _ _ (Int.emod_nonneg _ (by omega)) (Int.emod_lt_of_pos _ m0) ?_
        have b1 : Bx4 b H (upd H b (.lst [.int g, .int s, .int pr, .int (kk + 1)])) := Bx4.drawn g0 s0 s1 p0 p1
        exact b1.trans (Bx4.drawn (k := kk + 1) g0 t0 (by omega) p0 p1)

/-! ### whole numbers told of things -/
theorem int_yes : PySem.W.kitOne K (.type "int") (.type "int") = some true := kit_ty (by decide +kernel)
theorem intB_no : PySem.W.kitOne K (.type "int") (.type "bool") = some false := kit_ty (by decide +kernel)
theorem blI_yes : PySem.W.kitOne K (.type "bool") (.type "int") = some true := kit_ty (by decide +kernel)
theorem blB_yes : PySem.W.kitOne K (.type "bool") (.type "bool") = some true := kit_ty (by decide +kernel)
theorem isI_no {t : String} (h : t ∈ ["NoneType", "str", "list", "tuple"]) : PySem.W.kitOne K (.type t) (.type "int") = some false := by
  have : ∀ t ∈ ["NoneType", "str", "list", "tuple"], kitB t "int" = some false := by decide +kernel
  exact kit_ty (this t h)
def spWhole (K : PySem.W.Frag) : Sp := fun vs H Q _ => ∃ v : V, vs = [v] ∧ ((∃ n : Int, v = .int n ∧ Q (.bl true) H) ∨ (∃ b : Bool, v = .bl b ∧ Q (.bl false) H) ∨ ∃ t, TyOf K H v (.type t) ∧ t ∈ ["NoneType", "str", "list", "tuple"] ∧ Q (.bl false) H)
theorem ok_is_whole {A : Ad} (T : Txt w K mg base A) : FnOk P w K mg base CX0 1 A.a_is_whole A.d_is_whole P_is_whole (spWhole K) := by
  refine T.F_is_whole.ok sc_is_whole (fun vs H Q E h => ?_) (fun cdv Ar outer s H vs Q E hr h => ?_)
  · obtain ⟨v, rfl, _⟩ := h
    rfl
  · obtain ⟨v, rfl, h⟩ := h
    refine ⟨_, (pss_one (ps_ret (pe_and (pe_callB (r := rIsi K) call_isi (by rfl) T.z_isinstance (by decide +kernel) (pa_cons (pv 0) (pa_cons (pe_bltn (v := .ty "int") (by rfl) T.z_int (by decide +kernel) rfl) pa_nil))) (pe_one (pe_not (pe_callB (r := rIsi K) call_isi (by rfl) T.z_isinstance (by decide +kernel) (pa_cons (pv 0) (pa_cons (pe_bltn (v := .ty "bool") (by rfl) T.z_bool (by decide +kernel) rfl) pa_nil)))))))), ?_⟩
    rcases h with ⟨n, rfl, q⟩ | ⟨b, rfl, q⟩ | ⟨t, ht, mt, q⟩
    · exact ⟨_, rfl, _, _, _, _, true, rfl, ClsV.ty _, TyX.base (.int _), int_yes, _, rfl, iteT ⟨_, rfl, _, _, _, _, false, rfl, ClsV.ty _, TyX.base (.int _), intB_no, _, rfl, q⟩⟩
    · exact ⟨_, rfl, _, _, _, _, true, rfl, ClsV.ty _, TyX.base (.bl _), blI_yes, _, rfl, iteT ⟨_, rfl, _, _, _, _, true, rfl, ClsV.ty _, TyX.base (.bl _), blB_yes, _, rfl, q⟩⟩
    · exact ⟨_, rfl, _, _, _, _, false, rfl, ClsV.ty _, TyX.base ht, isI_no mt, _, rfl, iteF q⟩

--SPLIT
/-! ### alike -/
def LkOk (d : PyData) : Prop := DOk d 40 ∧ ShOk d 100000
def spLike (K : PySem.W.Frag) : Sp := fun vs H Q _ => ∃ (x y : V) (d : PyData), vs = [x, y] ∧ Dp K H x d ∧ Dp K H y d ∧ LkOk d ∧ Q (.bl true) H
theorem ok_like {A : Ad} (T : Txt w K mg base A) : FpG.FnG P w K mg base CX0 1 A.a_like A.d_like P_like (spLike K) := by
  refine FpG.okG T.F_like sc_like (fun vs H Q E h => ?_) (fun cdv Ar outer s H vs Q E hgd hr h => ?_)
  · obtain ⟨x, y, d, rfl, _⟩ := h
    rfl
  · obtain ⟨x, y, d, rfl, h1, h2, ⟨dk, sk⟩, q⟩ := h
    refine ⟨_, (pss_one (ps_ret (pe_and (pe_cmpR (r := rEqD K) (op_eqD hr.units) (pv 0) (pv 1) (nomark _)) (pe_one (pe_cmpR op_eq (pe_callB (r := FpG.rRepr K) (FpG.call_reprD hgd hr) (by rfl) T.z_repr (by decide +kernel) (pa_cons (pv 0) pa_nil)) (pe_callB (r := FpG.rRepr K) (FpG.call_reprD hgd hr) (by rfl) T.z_repr (by decide +kernel) (pa_cons (pv 1) pa_nil)) (nomark _)))))), ?_⟩
    refine ⟨_, rfl, _, rfl, d, d, h1, h2, dk.shaped, dk.shaped, _, rfl, ?_⟩
    rw [dk.refl]
    refine iteT ?_
    have dp : d.depth ≤ 50 := by
      have := dk.2
      omega
    refine ⟨_, rfl, x, d, rfl, h1, sk.1, dk.1, dp, sz sk.2, _, rfl, y, d, rfl, h2, sk.1, dk.1, dp, sz sk.2, rfl, ?_⟩
    rw [decide_eq_true rfl]
    exact q
/-! ### kinds of things -/
theorem isT_yes : PySem.W.kitOne K (.type "tuple") (.type "tuple") = some true := kit_ty (by decide +kernel)
theorem isT_no {t : String} (h : t ∈ ["NoneType", "bool", "int", "str", "list"]) : PySem.W.kitOne K (.type t) (.type "tuple") = some false := by
  have : ∀ t ∈ ["NoneType", "bool", "int", "str", "list"], kitB t "tuple" = some false := by decide +kernel
  exact kit_ty (this t h)
theorem isB_no {t : String} (h : t ∈ ["NoneType", "int", "str", "list", "tuple"]) : PySem.W.kitOne K (.type t) (.type "bool") = some false := by
  have : ∀ t ∈ ["NoneType", "int", "str", "list", "tuple"], kitB t "bool" = some false := by decide +kernel
  exact kit_ty (this t h)
theorem tuI_no : PySem.W.kitOne K (.type "tuple") (.type "int") = some false := kit_ty (by decide +kernel)
theorem tuS_no : PySem.W.kitOne K (.type "tuple") (.type "str") = some false := kit_ty (by decide +kernel)
/-- a part of a tuple: a whole number, a truth, or of another kind -/
theorem it_kind {b : Addr} {H : Hp} {v : V} (h : It b H v) : (∃ n : Int, v = .int n) ∨ (∃ x : Bool, v = .bl x) ∨ (∃ t, TyOf K H v (.type t) ∧ t ∈ ["NoneType", "str", "list", "tuple"] ∧ (∀ lo hi, whole v lo hi = false) ∧ isBl v = false) := by
  rcases h with (rfl | ⟨x, rfl⟩ | ⟨n, rfl⟩ | ⟨z, rfl, _⟩) | ⟨a, xs, rfl, _, e⟩ | ⟨a, xs, rfl, e⟩
  · exact .inr (.inr ⟨"NoneType", .non, by decide, fun _ _ => rfl, rfl⟩)
  · exact .inr (.inl ⟨x, rfl⟩)
  · exact .inl ⟨n, rfl⟩
  · exact .inr (.inr ⟨"str", .str _, by decide, fun _ _ => rfl, rfl⟩)
  · exact .inr (.inr ⟨"list", .lst e, by decide, fun _ _ => rfl, rfl⟩)
  · exact .inr (.inr ⟨"tuple", .tup e, by decide, fun _ _ => rfl, rfl⟩)
theorem tg_kind {b : Addr} {H : Hp} {v : V} (h : Tg b H v) : (∃ a xs, v = .ref a ∧ H a = some (.tup xs) ∧ ∀ u ∈ xs, It b H u) ∨ ((∃ t, TyOf K H v (.type t) ∧ t ∈ ["NoneType", "bool", "int", "str", "list"]) ∧ ∀ a xs, v = .ref a → H a ≠ some (.tup xs)) := by
  rcases h with (rfl | ⟨x, rfl⟩ | ⟨n, rfl⟩ | ⟨z, rfl, _⟩) | ⟨a, xs, rfl, _, e⟩ | ⟨a, xs, rfl, e, l, k⟩
  · exact .inr ⟨⟨"NoneType", .non, by decide⟩, fun _ _ z => by cases z⟩
  · exact .inr ⟨⟨"bool", .bl _, by decide⟩, fun _ _ z => by cases z⟩
  · exact .inr ⟨⟨"int", .int _, by decide⟩, fun _ _ z => by cases z⟩
  · exact .inr ⟨⟨"str", .str _, by decide⟩, fun _ _ z => by cases z⟩
  · refine .inr ⟨⟨"list", .lst e, by decide⟩, fun c ys z y => ?_⟩
    cases z
    rw [e] at y
    cases y
  · exact .inl ⟨a, xs, rfl, e, k⟩
theorem setR_tup {H : Hp} {a : Addr} {xs : List V} {r : Bool} (h : SetR H (.ref a) r) (e : H a = some (.tup xs)) : r = setL xs := by
  rcases h with ⟨c, ys, z, g, rfl⟩ | ⟨n, _⟩
  · cases z
    rw [e] at g
    cases g
    rfl
  · exact absurd e (n a xs rfl)
theorem setR_not {H : Hp} {v : V} {r : Bool} (h : SetR H v r) (n : ∀ a xs, v = .ref a → H a ≠ some (.tup xs)) : r = false := by
  rcases h with ⟨c, ys, z, g, rfl⟩ | ⟨_, e⟩
  · exact absurd g (n c ys z)
  · exact e
theorem four {xs : List V} (h : xs.length = 4) : ∃ a b c d, xs = [a, b, c, d] := by
  match xs, h with
  | [a, b, c, d], _ => exact ⟨a, b, c, d, rfl⟩
theorem setL_not {xs : List V} (h : xs.length ≠ 4) : setL xs = false := by
  unfold setL
  split
  · exact absurd rfl h
  · rfl
--SPLIT
/-! ### whether a thing is a setting: the law's own -/
def spFrom (K : PySem.W.Frag) : Sp := fun vs H Q _ => ∃ (b : Addr) (v : V) (lo hi : Int), vs = [v, .int lo, .int hi] ∧ It b H v ∧ Q (.bl (whole v lo hi)) H
theorem ok_from_to {A : Ad} (T : Txt w K mg base A) : FnOk P w K mg base CX0 1 A.a_from_to A.d_from_to P_from_to (spFrom K) := by
  refine T.F_from_to.ok sc_from_to (fun vs H Q E h => ?_) (fun cdv Ar outer s H vs Q E hr h => ?_)
  · obtain ⟨b, v, lo, hi, rfl, _⟩ := h
    rfl
  · obtain ⟨b, v, lo, hi, rfl, hv, q⟩ := h
    refine ⟨_, (pss_one (ps_ret (pe_and (pe_callB (r := rIsi K) call_isi (by rfl) T.z_isinstance (by decide +kernel) (pa_cons (pv 0) (pa_cons (pe_bltn (v := .ty "int") (by rfl) T.z_int (by decide +kernel) rfl) pa_nil))) (pe_and (pe_not (pe_callB (r := rIsi K) call_isi (by rfl) T.z_isinstance (by decide +kernel) (pa_cons (pv 0) (pa_cons (pe_bltn (v := .ty "bool") (by rfl) T.z_bool (by decide +kernel) rfl) pa_nil)))) (pe_one (pe_chain op_le op_le (pv 1) (pv 0) (pv 2))))))), ?_⟩
    rcases it_kind (K := K) hv with ⟨n, rfl⟩ | ⟨x, rfl⟩ | ⟨t, ht, mt, hw, _⟩
    · refine ⟨_, rfl, _, _, _, _, true, rfl, ClsV.ty _, TyX.base (.int _), int_yes, _, rfl, iteT ⟨_, rfl, _, _, _, _, false, rfl, ClsV.ty _, TyX.base (.int _), intB_no, _, rfl, _, rfl, iteT ⟨_, rfl, _, rfl, _, _, rfl, rfl, _, rfl, ?_⟩⟩⟩
      have q : Q (.bl (decide (lo ≤ n) && decide (n ≤ hi))) H := q
      by_cases z : lo ≤ n
      · refine iteD1 z ⟨_, rfl, _, _, rfl, rfl, ?_⟩
        rw [decide_eq_true z, Bool.true_and] at q
        exact q
      · refine iteD0 z ?_
        rw [decide_eq_false z, Bool.false_and] at q
        exact q
    · exact ⟨_, rfl, _, _, _, _, true, rfl, ClsV.ty _, TyX.base (.bl _), blI_yes, _, rfl, iteT ⟨_, rfl, _, _, _, _, true, rfl, ClsV.ty _, TyX.base (.bl _), blB_yes, _, rfl, _, rfl, iteF q⟩⟩
    · rw [hw] at q
      exact ⟨_, rfl, _, _, _, _, false, rfl, ClsV.ty _, TyX.base ht, isI_no mt, _, rfl, iteF q⟩
def spIsSetL (K : PySem.W.Frag) : Sp := fun vs H Q _ => ∃ (b : Addr) (v : V) (r : Bool), vs = [v] ∧ Tg b H v ∧ SetR H v r ∧ Q (.bl r) H
theorem bl_kind {H : Hp} {b : Addr} {v : V} (h : It b H v) : ∃ t, TyOf K H v (.type t) ∧ PySem.W.kitOne K (.type t) (.type "bool") = some (isBl v) := by
  rcases it_kind (K := K) h with ⟨n, rfl⟩ | ⟨x, rfl⟩ | ⟨t, ht, mt, _, hb⟩
  · exact ⟨"int", .int _, intB_no⟩
  · exact ⟨"bool", .bl _, blB_yes⟩
  · refine ⟨t, ht, ?_⟩
    rw [hb]
    exact isB_no (by
      simp only [List.mem_cons, List.not_mem_nil, or_false] at mt ⊢
      rcases mt with h | h | h | h
      · exact .inl h
      · exact .inr (.inr (.inl h))
      · exact .inr (.inr (.inr (.inl h)))
      · exact .inr (.inr (.inr (.inr h))))
theorem ok_is_setting_l {A : Ad} (T : Txt w K mg base A) : FnOk P w K mg base CX0 2 A.a_is_setting_l A.d_is_setting_l P_is_setting_l (spIsSetL K) := by
  have G_from_to := ok_from_to (P := P) (w := w) (base := base) T
  refine T.F_is_setting_l.ok sc_is_setting_l (fun vs H Q E h => ?_) (fun cdv Ar outer s H vs Q E hr h => ?_)
  · obtain ⟨b, v, r, rfl, _⟩ := h
    rfl
  · obtain ⟨b, v, r, rfl, hv, hR, q⟩ := h
    refine ⟨_, (pss_cons (ps_if (PW.pt (pw_or (pt_not (pt_val (pe_callB (r := rIsi K) call_isi (by rfl) T.z_isinstance (by decide +kernel) (pa_cons (pv 0) (pa_cons (pe_bltn (v := .ty "tuple") (by rfl) T.z_tuple (by decide +kernel) rfl) pa_nil))))) (pw_or (pt_cmpR op_ne (pe_callB (r := fun xs H Q => ∃ p ys, xs = [.ref p] ∧ (SqL K H p ys ∨ SqT K H p ys) ∧ Q (.int ys.length) H) call_len_seq (by rfl) T.z_len PySem.boot_len (pa_cons (pv 0) pa_nil)) pe_int (nomark _)) (pw_or1 (pt_not (pt_val (pe_callB (r := rIsi K) call_isi (by rfl) T.z_isinstance (by decide +kernel) (pa_cons (pe_ix (r := rIxT K) ix_tup (pv 0) pe_int (fun _ _ => rfl)) (pa_cons (pe_bltn (v := .ty "bool") (by rfl) T.z_bool (by decide +kernel) rfl) pa_nil)))))))))
      (pss_one (ps_ret pe_bl)) pss_nil)
      (pss_cons (ps_if (PW.pt (pw_or (pt_not (pt_val (pe_call G_from_to (hr.mono (by decide)) (by rfl) T.g_from_to T.F_from_to.kp T.b_from_to .nil pass0 (pa_cons (pe_ix (r := rIxT K) ix_tup (pv 0) pe_int (fun _ _ => rfl)) (pa_cons pe_int (pa_cons pe_int pa_nil)))))) (pw_or1 (pt_not (pt_val (pe_call G_from_to (hr.mono (by decide)) (by rfl) T.g_from_to T.F_from_to.kp T.b_from_to .nil pass0 (pa_cons (pe_ix (r := rIxT K) ix_tup (pv 0) pe_int (fun _ _ => rfl)) (pa_cons pe_int (pa_cons pe_int pa_nil)))))))))
      (pss_one (ps_ret pe_bl)) pss_nil)
      (pss_one (ps_ret (pe_or (pe_call G_from_to (hr.mono (by decide)) (by rfl) T.g_from_to T.F_from_to.kp T.b_from_to .nil pass0 (pa_cons (pe_ix (r := rIxT K) ix_tup (pv 0) pe_int (fun _ _ => rfl)) (pa_cons pe_int (pa_cons pe_int pa_nil)))) (pe_one (pe_call G_from_to (hr.mono (by decide)) (by rfl) T.g_from_to T.F_from_to.kp T.b_from_to .nil pass0 (pa_cons (pe_ix (r := rIxT K) ix_tup (pv 0) pe_int (fun _ _ => rfl)) (pa_cons pe_int (pa_cons pe_int pa_nil)))))))))), ?_⟩
    rcases tg_kind (K := K) hv with ⟨a, xs, rfl, ha, hx⟩ | ⟨⟨t, ht, mt⟩, no⟩
    · have er := setR_tup hR ha
      refine ⟨_, rfl, _, _, _, _, true, rfl, ClsV.ty _, TyX.base (.tup ha), isT_yes, _, rfl, ?_⟩
      refine ⟨_, rfl, _, _, rfl, .inr (SqT.of ha), rfl, _, rfl, ?_⟩
      by_cases z : xs.length = 4
      · refine iteN0 (vint.mpr (by omega)) ?_
        obtain ⟨x0, x1, x2, x3, rfl⟩ := four z
        have h0 := hx x0 (by simp)
        have h1 := hx x1 (by simp)
        have h2 := hx x2 (by simp)
        have h3 := hx x3 (by simp)
        have er : r = (whole x0 8 64 && (whole x1 1 2 || whole x1 4 4) && whole x2 1 4 && isBl x3) := er
        obtain ⟨t3, ht3, k3⟩ := bl_kind (K := K) h3
        refine ⟨_, rfl, _, _, _, x3, rfl, rfl, SqT.of ha, atI_nat (j := 3) rfl, _, _, _, _, _, rfl, ClsV.ty _, TyX.base ht3, k3, _, rfl, ?_⟩
        cases e3 : isBl x3 with
        | false =>
          refine iteT ?_
          rw [er, e3, Bool.and_false] at q
          exact q
        | true =>
          refine iteF ?_
          refine ⟨_, rfl, _, _, _, x0, rfl, rfl, SqT.of ha, atI_nat (j := 0) rfl, b, x0, 8, 64, rfl, h0, _, rfl, ?_⟩
          cases e0 : whole x0 8 64 with
          | false =>
            refine iteT (iteT ?_)
            rw [er, e0, Bool.false_and, Bool.false_and, Bool.false_and] at q
            exact q
          | true =>
            refine iteF ⟨_, rfl, _, _, _, x2, rfl, rfl, SqT.of ha, atI_nat (j := 2) rfl, b, x2, 1, 4, rfl, h2, _, rfl, ?_⟩
            cases e2 : whole x2 1 4 with
            | false =>
              refine iteT ?_
              rw [er, e2, Bool.and_false, Bool.false_and] at q
              exact q
            | true =>
              refine iteF ?_
              rw [er, e0, e2, e3, Bool.true_and, Bool.and_true, Bool.and_true] at q
              refine ⟨_, rfl, _, _, _, x1, rfl, rfl, SqT.of ha, atI_nat (j := 1) rfl, b, x1, 1, 2, rfl, h1, _, rfl, ?_⟩
              cases e1 : whole x1 1 2 with
              | true =>
                rw [e1, Bool.true_or] at q
                exact iteT q
              | false =>
                rw [e1, Bool.false_or] at q
                exact iteF ⟨_, rfl, _, _, _, x1, rfl, rfl, SqT.of ha, atI_nat (j := 1) rfl, b, x1, 4, 4, rfl, h1, q⟩
      · refine iteN1 (fun y => z (by have := V.int.inj y; omega)) (iteT ?_)
        rw [er, setL_not z] at q
        exact q
    · rw [setR_not hR no] at q
      exact ⟨_, rfl, _, _, _, _, false, rfl, ClsV.ty _, TyX.base ht, isT_no mt, _, rfl, q⟩
--SPLIT
/-! ### whether a thing is a setting: the program's -/
theorem ev_in (n : Int) : inV (.int n) [.int 1, .int 2, .int 4] = (whole (.int n) 1 2 || whole (.int n) 4 4) := by
  show (decide ((1 : Int) = n) || (decide ((2 : Int) = n) || (decide ((4 : Int) = n) || false))) = (decide ((1 : Int) ≤ n) && decide (n ≤ 2) || decide ((4 : Int) ≤ n) && decide (n ≤ 4))
  rw [Bool.eq_iff_iff]
  simp only [Bool.or_eq_true, Bool.and_eq_true, decide_eq_true_eq, Bool.or_false]
  omega
theorem ok_is_setting {A : Ad} (T : Txt w K mg base A) : FnOk P w K mg base CX0 2 A.a_is_setting A.d_is_setting P_is_setting (spIsSetL K) := by
  have G_is_whole := ok_is_whole (P := P) (w := w) (base := base) T
  refine T.F_is_setting.ok sc_is_setting (fun vs H Q E h => ?_) (fun cdv Ar outer s H vs Q E hr h => ?_)
  · obtain ⟨b, v, r, rfl, _⟩ := h
    rfl
  · obtain ⟨b, v, r, rfl, hv, hR, q⟩ := h
    refine ⟨_, (pss_cons (ps_if (PW.pt (pw_or (pt_not (pt_val (pe_callB (r := rIsi K) call_isi (by rfl) T.z_isinstance (by decide +kernel) (pa_cons (pv 0) (pa_cons (pe_bltn (v := .ty "tuple") (by rfl) T.z_tuple (by decide +kernel) rfl) pa_nil))))) (pw_or1 (pt_cmpR op_ne (pe_callB (r := fun xs H Q => ∃ p ys, xs = [.ref p] ∧ (SqL K H p ys ∨ SqT K H p ys) ∧ Q (.int ys.length) H) call_len_seq (by rfl) T.z_len PySem.boot_len (pa_cons (pv 0) pa_nil)) (pe_glob (v := .int (4)) (by rfl) T.c_PARTS ⟨_, rfl⟩) (nomark _)))))
      (pss_one (ps_ret pe_bl)) pss_nil)
      (pss_cons (ps_asg (pv 0) (pg_tup (by rfl) (pgs_cons (pg_name (i := 1) sc_is_setting.nd rfl (Or.inl rfl)) (pgs_cons (pg_name (i := 2) sc_is_setting.nd rfl (Or.inl rfl)) (pgs_cons (pg_name (i := 3) sc_is_setting.nd rfl (Or.inl rfl)) (pgs_cons (pg_name (i := 4) sc_is_setting.nd rfl (Or.inl rfl)) pgs_nil))))))
      (pss_cons (ps_if (PW.pt (pw_or (pt_not (pt_val (pe_call G_is_whole (hr.mono (by decide)) (by rfl) T.g_is_whole T.F_is_whole.kp T.b_is_whole .nil pass0 (pa_cons (pv 1) pa_nil)))) (pw_or (pt_not (pt_val (pe_call G_is_whole (hr.mono (by decide)) (by rfl) T.g_is_whole T.F_is_whole.kp T.b_is_whole .nil pass0 (pa_cons (pv 2) pa_nil)))) (pw_or1 (pt_not (pt_val (pe_call G_is_whole (hr.mono (by decide)) (by rfl) T.g_is_whole T.F_is_whole.kp T.b_is_whole .nil pass0 (pa_cons (pv 3) pa_nil))))))))
      (pss_one (ps_ret pe_bl)) pss_nil)
      (pss_cons (ps_if (PW.pt (pw_or (pt_not (pt_chain op_le op_le (pe_glob (v := .int (8)) (by rfl) T.c_LEAST_BREADTH ⟨_, rfl⟩) (pv 1) (pe_glob (v := .int (64)) (by rfl) T.c_MOST_BREADTH ⟨_, rfl⟩))) (pw_or1 (pt_cmpR (r := rIn K true) op_notIn_seq (pv 2) (pe_glob (v := .ref A.t_EVERIES) (by rfl) T.c_EVERIES rfl) (by rfl)))))
      (pss_one (ps_ret pe_bl)) pss_nil)
      (pss_one (ps_ret (pe_and (pe_chain op_le op_le pe_int (pv 3) (pe_glob (v := .int (4)) (by rfl) T.c_MOST_SPEED ⟨_, rfl⟩)) (pe_one (pe_callB (r := rIsi K) call_isi (by rfl) T.z_isinstance (by decide +kernel) (pa_cons (pv 4) (pa_cons (pe_bltn (v := .ty "bool") (by rfl) T.z_bool (by decide +kernel) rfl) pa_nil))))))))))), ?_⟩
    rcases tg_kind (K := K) hv with ⟨a, xs, rfl, ha, hx⟩ | ⟨⟨t, ht, mt⟩, no⟩
    · have er := setR_tup hR ha
      refine ⟨_, rfl, _, _, _, _, true, rfl, ClsV.ty _, TyX.base (.tup ha), isT_yes, _, rfl, ?_⟩
      refine ⟨_, rfl, _, _, rfl, .inr (SqT.of ha), rfl, _, rfl, ?_⟩
      by_cases z : xs.length = 4
      · refine iteN0 (vint.mpr (by omega)) ?_
        obtain ⟨x0, x1, x2, x3, rfl⟩ := four z
        have h0 := hx x0 (by simp)
        have h1 := hx x1 (by simp)
        have h2 := hx x2 (by simp)
        have h3 := hx x3 (by simp)
        have er : r = (whole x0 8 64 && (whole x1 1 2 || whole x1 4 4) && whole x2 1 4 && isBl x3) := er
        obtain ⟨t3, ht3, k3⟩ := bl_kind (K := K) h3
        refine ⟨_, rfl, a, _, rfl, SqT.of ha, rfl, _, _, rfl, _, _, rfl, _, _, rfl, _, _, rfl, rfl, ?_⟩
        rcases it_kind (K := K) h0 with ⟨n0, rfl⟩ | ⟨y, rfl⟩ | ⟨t, ht, mt, hw, _⟩
        rotate_left
        · rw [er, show whole (.bl y) 8 64 = false from rfl, Bool.false_and, Bool.false_and, Bool.false_and] at q
          exact ⟨_, rfl, _, rfl, .inr (.inl ⟨_, rfl, _, rfl, iteT (iteT q)⟩)⟩
        · rw [er, hw, Bool.false_and, Bool.false_and, Bool.false_and] at q
          exact ⟨_, rfl, _, rfl, .inr (.inr ⟨t, ht, mt, _, rfl, iteT (iteT q)⟩)⟩
        refine ⟨_, rfl, _, rfl, .inl ⟨_, rfl, _, rfl, iteF ?_⟩⟩
        rcases it_kind (K := K) h1 with ⟨n1, rfl⟩ | ⟨y, rfl⟩ | ⟨t, ht, mt, hw, _⟩
        rotate_left
        · rw [er, show whole (.bl y) 1 2 = false from rfl, show whole (.bl y) 4 4 = false from rfl, Bool.or_false, Bool.and_false, Bool.false_and, Bool.false_and] at q
          exact ⟨_, rfl, _, rfl, .inr (.inl ⟨_, rfl, _, rfl, iteT (iteT q)⟩)⟩
        · rw [er, hw, hw, Bool.or_false, Bool.and_false, Bool.false_and, Bool.false_and] at q
          exact ⟨_, rfl, _, rfl, .inr (.inr ⟨t, ht, mt, _, rfl, iteT (iteT q)⟩)⟩
        refine ⟨_, rfl, _, rfl, .inl ⟨_, rfl, _, rfl, iteF ?_⟩⟩
        rcases it_kind (K := K) h2 with ⟨n2, rfl⟩ | ⟨y, rfl⟩ | ⟨t, ht, mt, hw, _⟩
        rotate_left
        · rw [er, show whole (.bl y) 1 4 = false from rfl, Bool.and_false, Bool.false_and] at q
          exact ⟨_, rfl, _, rfl, .inr (.inl ⟨_, rfl, _, rfl, iteT q⟩)⟩
        · rw [er, hw, Bool.and_false, Bool.false_and] at q
          exact ⟨_, rfl, _, rfl, .inr (.inr ⟨t, ht, mt, _, rfl, iteT q⟩)⟩
        refine ⟨_, rfl, _, rfl, .inl ⟨_, rfl, _, rfl, iteF ?_⟩⟩
        have q : Q (.bl (decide (8 ≤ n0) && decide (n0 ≤ 64) && (whole (.int n1) 1 2 || whole (.int n1) 4 4) && (decide (1 ≤ n2) && decide (n2 ≤ 4)) && isBl x3)) H := by
          rw [er] at q
          exact q
        refine ⟨_, rfl, _, _, rfl, rfl, _, rfl, ?_⟩
        by_cases c0 : 8 ≤ n0
        · refine iteD1 c0 ⟨_, _, rfl, rfl, ?_⟩
          rw [decide_eq_true c0, Bool.true_and] at q
          by_cases c1 : n0 ≤ 64
          · rw [decide_eq_true c1, Bool.true_and] at q
            refine ⟨true, congrArg V.bl (decide_eq_true c1), iteF ?_⟩
            refine ⟨_, rfl, _, _, rfl, .inr (T.S_EVERIES H), rfl, by decide +kernel, _, rfl, ?_⟩
            rw [ev_in]
            cases ee : (whole (.int n1) 1 2 || whole (.int n1) 4 4) with
            | false =>
              rw [ee, Bool.false_and, Bool.false_and] at q
              exact iteT q
            | true =>
              rw [ee, Bool.true_and] at q
              refine iteF ⟨_, rfl, _, _, rfl, rfl, _, rfl, ?_⟩
              by_cases c2 : 1 ≤ n2
              · rw [decide_eq_true c2, Bool.true_and] at q
                refine iteD1 c2 ⟨_, _, rfl, rfl, ?_⟩
                by_cases c3 : n2 ≤ 4
                · rw [decide_eq_true c3, Bool.true_and] at q
                  exact ⟨true, congrArg V.bl (decide_eq_true c3), iteT ⟨_, rfl, _, _, _, _, _, rfl, ClsV.ty _, TyX.base ht3, k3, q⟩⟩
                · rw [decide_eq_false c3, Bool.false_and] at q
                  exact ⟨false, congrArg V.bl (decide_eq_false c3), iteF q⟩
              · rw [decide_eq_false c2, Bool.false_and, Bool.false_and] at q
                exact iteD0 c2 ⟨_, rfl, iteF q⟩
          · rw [decide_eq_false c1, Bool.false_and, Bool.false_and, Bool.false_and] at q
            exact ⟨false, congrArg V.bl (decide_eq_false c1), iteT (iteT q)⟩
        · refine iteD0 c0 ?_
          rw [decide_eq_false c0, Bool.false_and, Bool.false_and, Bool.false_and, Bool.false_and] at q
          exact ⟨_, rfl, iteT (iteT q)⟩
      · refine iteN1 (fun y => z (by have := V.int.inj y; omega)) ?_
        rw [er, setL_not z] at q
        exact q
    · rw [setR_not hR no] at q
      exact ⟨_, rfl, _, _, _, _, false, rfl, ClsV.ty _, TyX.base ht, isT_no mt, _, rfl, q⟩
def spAgreed (K : PySem.W.Frag) : Sp := fun vs H Q _ => ∃ (a b : Addr) (s t : Stt), vs = [.ref a, .ref b] ∧ H a = some (.tup (stV s)) ∧ H b = some (.tup (stV t)) ∧
  ∀ l H', Same H H' → H l = none → H' l = some (.tup (stV (agr s t))) → Q (.ref l) H'
theorem min_nat (x y : Nat) : (if (y : Int) < (x : Int) then (y : Int) else (x : Int)) = ((min x y : Nat) : Int) := by
  split <;> omega
theorem ok_agreed {A : Ad} (T : Txt w K mg base A) : FnOk P w K mg base CX0 1 A.a_agreed A.d_agreed P_agreed (spAgreed K) := by
  refine T.F_agreed.ok sc_agreed (fun vs H Q E h => ?_) (fun cdv Ar outer s H vs Q E hr h => ?_)
  · obtain ⟨a, b, s, t, rfl, _⟩ := h
    rfl
  · obtain ⟨a, b, s', t, rfl, ha, hb, q⟩ := h
    refine ⟨_, (pss_one (ps_ret (pe_tup (pa_cons (pe_callB (call_min2 rfl) (by rfl) T.z_min (by decide +kernel) (pa_cons (pe_ix (r := rIxT K) ix_tup (pv 0) pe_int (fun _ _ => rfl)) (pa_cons (pe_ix (r := rIxT K) ix_tup (pv 1) pe_int (fun _ _ => rfl)) pa_nil))) (pa_cons (pe_callB (call_min2 rfl) (by rfl) T.z_min (by decide +kernel) (pa_cons (pe_ix (r := rIxT K) ix_tup (pv 0) pe_int (fun _ _ => rfl)) (pa_cons (pe_ix (r := rIxT K) ix_tup (pv 1) pe_int (fun _ _ => rfl)) pa_nil))) (pa_cons (pe_callB (call_min2 rfl) (by rfl) T.z_min (by decide +kernel) (pa_cons (pe_ix (r := rIxT K) ix_tup (pv 0) pe_int (fun _ _ => rfl)) (pa_cons (pe_ix (r := rIxT K) ix_tup (pv 1) pe_int (fun _ _ => rfl)) pa_nil))) (pa_cons (pe_and (pe_ix (r := rIxT K) ix_tup (pv 0) pe_int (fun _ _ => rfl)) (pe_one (pe_ix (r := rIxT K) ix_tup (pv 1) pe_int (fun _ _ => rfl)))) pa_nil))))))), ?_⟩
    refine ⟨_, rfl, _, _, _, V.int (s'.br : Int), rfl, rfl, SqT.of ha, atI_nat (j := 0) rfl, _, rfl, _, _, _, V.int (t.br : Int), rfl, rfl, SqT.of hb, atI_nat (j := 0) rfl, _, _, rfl, ?_⟩
    refine ⟨_, rfl, _, _, _, V.int (s'.ev : Int), rfl, rfl, SqT.of ha, atI_nat (j := 1) rfl, _, rfl, _, _, _, V.int (t.ev : Int), rfl, rfl, SqT.of hb, atI_nat (j := 1) rfl, _, _, rfl, ?_⟩
    refine ⟨_, rfl, _, _, _, V.int (s'.sp : Int), rfl, rfl, SqT.of ha, atI_nat (j := 2) rfl, _, rfl, _, _, _, V.int (t.sp : Int), rfl, rfl, SqT.of hb, atI_nat (j := 2) rfl, _, _, rfl, ?_⟩
    refine ⟨_, rfl, _, _, _, V.bl s'.md, rfl, rfl, SqT.of ha, atI_nat (j := 3) rfl, _, rfl, ?_⟩
    rw [min_nat, min_nat, min_nat]
    have sz4 : ∀ m : Bool, [V.int ((min s'.br t.br : Nat) : Int), V.int ((min s'.ev t.ev : Nat) : Int), V.int ((min s'.sp t.sp : Nat) : Int), V.bl m].length ≤ sizeLine := fun m => sz (show 4 ≤ 100000 by decide)
    cases em : s'.md with
    | true =>
      refine iteT ⟨_, rfl, _, _, _, V.bl t.md, rfl, rfl, SqT.of hb, atI_nat (j := 3) rfl, sz4 _, fun l hl => q l _ (same_new hl) hl ?_⟩
      rw [upd_same]
      unfold stV agr
      rw [em, Bool.true_and]
    | false =>
      refine iteF ⟨sz4 _, fun l hl => q l _ (same_new hl) hl ?_⟩
      rw [upd_same]
      unfold stV agr
      rw [em, Bool.false_and]
--SPLIT
/-! ### things near by -/
def Sml (H : Hp) (v : V) : Prop := (∃ n : Nat, v = .int (n : Int) ∧ n < 128) ∨ (∃ x : Bool, v = .bl x) ∨ ∃ a xs, v = .ref a ∧ H a = some (.tup xs)
def spNear (K : PySem.W.Frag) : Sp := fun vs H Q _ => ∃ (b : Addr) (v : V), vs = [.ref b, v] ∧ Bag4 H b ∧ Sml H v ∧ ∀ u H', Bx4 b H H' → Tg b H' u → Q u H'
theorem small_text : ∀ n : Nat, n < 128 → (n : Int).natAbs.log2 < 1920 ∧ (Str.ofString (toString (n : Int))).length ≤ 100000 := by decide +kernel
theorem Sml.it {b : Addr} {H : Hp} {v : V} (h : Sml H v) : It b H v := by
  rcases h with ⟨n, rfl, _⟩ | ⟨x, rfl⟩ | ⟨a, xs, rfl, e⟩
  · exact .inl (.inr (.inr (.inl ⟨_, rfl⟩)))
  · exact .inl (.inr (.inl ⟨_, rfl⟩))
  · exact .inr (.inr ⟨a, xs, rfl, e⟩)
/-- a list of things in the hand -/
def Hand (b : Addr) (H : Hp) (v : V) (σ : List (Option V)) (H' : Hp) : Prop := ∃ l xs, l ≠ b ∧ σ = [some (.ref b), some v, some (.ref l)] ∧ Same H H' ∧ H' l = some (.lst xs) ∧ xs.length ≤ 10 ∧ 0 < xs.length ∧ (∀ u ∈ xs, Tg b H' u)
theorem ok_near {A : Ad} (T : Txt w K mg base A) : FnOk P w K mg base CX0 2 A.a_near A.d_near P_near (spNear K) := by
  have G_take := ok_take (P := P) (w := w) (base := base) T
  refine T.F_near.ok sc_near (fun vs H Q E h => ?_) (fun cdv Ar outer s H vs Q E hr h => ?_)
  · obtain ⟨b, v, rfl, _⟩ := h
    rfl
  · obtain ⟨b, v, rfl, hb, hv, q⟩ := h
    refine ⟨_, (pss_cons (ps_set (i := 2) sc_near.nd rfl (Or.inl rfl) (pe_lst (pa_cons pe_non (pa_cons (pe_tup pa_nil) (pa_cons pe_int (pa_cons (pe_lst (pa_cons (pv 1) pa_nil)) (pa_cons (pe_tup (pa_cons (pv 1) (pa_cons (pv 1) pa_nil))) (pa_cons pe_str (pa_cons pe_bl pa_nil)))))))))
      (Evl.pss_cut (ps_if (pt_val (pe_callB (r := rIsi K) call_isi (by rfl) T.z_isinstance (by decide +kernel) (pa_cons (pv 1) (pa_cons (pe_bltn (v := .ty "bool") (by rfl) T.z_bool (by decide +kernel) rfl) pa_nil))))
      (pss_one (ps_set (i := 2) sc_near.nd rfl (Or.inl rfl) (pe_lst (pa_cons (pe_not (pv 1)) (pa_cons (pe_callTy call_int1 (by rfl) T.z_int (by decide +kernel) (pa_cons (pv 1) pa_nil)) (pa_cons pe_non (pa_cons (pe_callTy call_str_bool (by rfl) T.z_str (by decide +kernel) (pa_cons (pv 1) pa_nil)) (pa_cons (pe_tup (pa_cons (pv 1) pa_nil)) (pa_cons pe_int pa_nil))))))))) (pss_one (ps_if (pt_val (pe_callB (r := rIsi K) call_isi (by rfl) T.z_isinstance (by decide +kernel) (pa_cons (pv 1) (pa_cons (pe_bltn (v := .ty "int") (by rfl) T.z_int (by decide +kernel) rfl) pa_nil))))
      (pss_one (ps_set (i := 2) sc_near.nd rfl (Or.inl rfl) (pe_lst (pa_cons (pe_op op_add (pv 1) pe_int) (pa_cons (pe_op op_sub (pv 1) pe_int) (pa_cons (pe_cmpR op_eq (pv 1) pe_int (nomark _)) (pa_cons (pe_callTy call_str_int (by rfl) T.z_str (by decide +kernel) (pa_cons (pv 1) pa_nil)) (pa_cons (pe_lst (pa_cons (pv 1) pa_nil)) (pa_cons (pe_un un_neg (pv 1)) (pa_cons (pe_op op_add (pe_op op_pow pe_int pe_int) (pv 1)) (pa_cons (pe_op op_mul (pv 1) pe_int) pa_nil))))))))))) (pss_one (ps_if (pt_val (pe_callB (r := rIsi K) call_isi (by rfl) T.z_isinstance (by decide +kernel) (pa_cons (pv 1) (pa_cons (pe_bltn (v := .ty "str") (by rfl) T.z_str (by decide +kernel) rfl) pa_nil))))
      (pss_cons (ps_set (i := 2) sc_near.nd rfl (Or.inl rfl) (pe_lst (pa_cons (pe_op op_add_str (pv 1) pe_str) (pa_cons (pe_slice sl_str (pv 1) (po_some pe_int) po_none) (pa_cons (pe_slice sl_str (pv 1) po_none (po_some (pe_un un_neg pe_int))) (pa_cons (pe_bm0 PySem.F.plainAttrs_str PySem.F.slot_str_upper PySem.F.type_str_upper mt_upper (pv 1)) (pa_cons (pe_tup (pa_cons (pv 1) pa_nil)) (pa_cons (pe_op op_add_str (pv 1) pe_str) (pa_cons (pe_op op_add_str (pv 1) pe_str) (pa_cons pe_non pa_nil))))))))))
      (pss_one (ps_expr (pe_bm PySem.F.plainAttrs_list PySem.F.slot_list_append PySem.F.type_list_append mt_append (pv 2) (pa_cons (pe_op op_add_str (pv 1) (pe_op op_mul_str pe_str pe_int)) pa_nil))))) pss_nil)))))
      (pss_one (ps_ret (pe_ix (r := rIxL K) ix_list (pv 2) (pe_call G_take (hr.mono (by decide)) (by rfl) T.g_take T.F_take.kp T.b_take .nil pass0 (pa_cons (pv 0) (pa_cons (pe_callB (r := fun xs H Q => ∃ p ys, xs = [.ref p] ∧ (SqL K H p ys ∨ SqT K H p ys) ∧ Q (.int ys.length) H) call_len_seq (by rfl) T.z_len PySem.boot_len (pa_cons (pv 2) pa_nil)) pa_nil))) (fun _ _ => rfl)))))), ?_⟩
    refine ⟨sz (by show 0 ≤ 100000; decide), fun p1 hp1 => ⟨_, rfl, sz (by show 1 ≤ 100000; decide), fun p2 hp2 => ⟨_, rfl, _, rfl, sz (by show 2 ≤ 100000; decide), fun p3 hp3 => ⟨sz (by show 7 ≤ 100000; decide), fun l hl => ?_⟩⟩⟩⟩
    have s1 := same_new hp1 (o := .tup [])
    have s2 := same_new hp2 (o := .lst [v])
    have s3 := same_new hp3 (o := .tup [v, v])
    have s4 := same_new hl (o := .lst [.non, .ref p1, .int 0, .ref p2, .ref p3, .str (Str.ofString "end"), .bl true])
    have st := s1.trans (s2.trans (s3.trans s4))
    have it0 : It b _ v := (hv.it (b := b)).same st
    have g1 := (s2.trans (s3.trans s4)) _ _ (upd_same (H := H) (a := p1) (o := .tup []))
    have g2 := (s3.trans s4) _ _ (upd_same (a := p2) (o := .lst [v]))
    have g3 := s4 _ _ (upd_same (a := p3) (o := .tup [v, v]))
    have n2 : p2 ≠ b := ((Bx4.refl hb).same s1).1.ne hp2
    have nl : l ≠ b := ((Bx4.refl hb).same (s1.trans (s2.trans s3))).1.ne hl
    have h0 : Hand b H v _ _ := ⟨l, _, nl, rfl, st, upd_same, by show 7 ≤ 10; decide, by show 0 < 7; decide,
      all_cons .non (all_cons (.tup g1 (by decide) all_nil) (all_cons (.int 0) (all_cons (.lst n2 g2) (all_cons (.tup g3 (by show 2 ≤ 1000; decide) (all_cons it0 (all_cons it0 all_nil))) (all_cons (.word (by decide +kernel)) (all_cons (.bl true) all_nil))))))⟩
    refine ⟨Hand b H v, ?_, ?_⟩
    · rcases hv with ⟨n, rfl, hn⟩ | ⟨x, rfl⟩ | ⟨a, xs, rfl, e⟩
      · refine ⟨_, rfl, _, _, _, _, false, rfl, ClsV.ty _, TyX.base (.int _), intB_no, _, rfl, iteF ⟨_, rfl, _, _, _, _, true, rfl, ClsV.ty _, TyX.base (.int _), int_yes, _, rfl, iteT ?_⟩⟩
        have sn := small_text n hn
        refine ⟨_, rfl, _, _, rfl, rfl, _, rfl, _, _, rfl, rfl, _, rfl, rfl, _, rfl, _, rfl, sn.1, _, rfl, sz (by show 1 ≤ 100000; decide), fun p5 hp5 => ⟨_, rfl, _, rfl, _, _, rfl, rfl, ⟨by decide, by decide, by decide⟩, _, rfl, _, _, rfl, rfl, _, rfl, _, _, rfl, rfl, .inr ⟨by decide, by decide⟩, sz (by show 8 ≤ 100000; decide), fun l6 hl6 => ?_⟩⟩
        have s5 := same_new hp5 (o := .lst [.int (n : Int)])
        have hb4 := ((Bx4.refl hb).same st).1
        have s6 := same_new hl6 (o := .lst [V.int ((n : Int) + 1), V.int ((n : Int) - 1), V.bl (decide (V.int (n : Int) = V.int 1)), V.str (Str.ofString (toString (n : Int))), V.ref p5, V.int (-(n : Int)), V.int (10 ^ (29 : Int).toNat + (n : Int)), V.int ((n : Int) * 2)])
        have g5 := s6 _ _ (upd_same (a := p5) (o := .lst [.int (n : Int)]))
        have n5 : p5 ≠ b := hb4.ne hp5
        have nl6 : l6 ≠ b := ((Bx4.refl hb4).same s5).1.ne hl6
        exact ⟨l6, _, nl6, rfl, st.trans (s5.trans s6), upd_same, by show 8 ≤ 10; decide, by show 0 < 8; decide,
          all_cons (.int _) (all_cons (.int _) (all_cons (.bl _) (all_cons (.word sn.2) (all_cons (.lst n5 g5) (all_cons (.int _) (all_cons (.int _) (all_cons (.int _) all_nil)))))))⟩
      · refine ⟨_, rfl, _, _, _, _, true, rfl, ClsV.ty _, TyX.base (.bl _), blB_yes, _, rfl, iteT ?_⟩
        refine ⟨_, rfl, _, rfl, _, rfl, .inr ⟨_, rfl, _, rfl, _, rfl, _, rfl, sz (by show 1 ≤ 100000; decide), fun p5 hp5 => ⟨sz (by show 6 ≤ 100000; decide), fun l6 hl6 => ?_⟩⟩⟩
        have s5 := same_new hp5 (o := .tup [.bl x])
        have hb4 := ((Bx4.refl hb).same st).1
        have s6 := same_new hl6 (o := .lst [V.bl !x, V.int (if x = true then 1 else 0), V.non, V.str (if x = true then Str.ofString "True" else Str.ofString "False"), V.ref p5, V.int 1])
        have g5 := s6 _ _ (upd_same (a := p5) (o := .tup [.bl x]))
        have nl6 : l6 ≠ b := ((Bx4.refl hb4).same s5).1.ne hl6
        exact ⟨l6, _, nl6, rfl, st.trans (s5.trans s6), upd_same, by show 6 ≤ 10; decide, by show 0 < 6; decide,
          all_cons (.bl _) (all_cons (.int _) (all_cons .non (all_cons (.word (by cases x <;> decide +kernel)) (all_cons (.tup g5 (by show 1 ≤ 1000; decide) (all_cons (.inl (.inr (.inl ⟨_, rfl⟩))) all_nil)) (all_cons (.int 1) all_nil)))))⟩
      · refine ⟨_, rfl, _, _, _, _, false, rfl, ClsV.ty _, TyX.base (.tup (st _ _ e)), isB_no (by decide), _, rfl, iteF ⟨_, rfl, _, _, _, _, false, rfl, ClsV.ty _, TyX.base (.tup (st _ _ e)), tuI_no, _, rfl, iteF ⟨_, rfl, _, _, _, _, false, rfl, ClsV.ty _, TyX.base (.tup (st _ _ e)), tuS_no, _, rfl, iteF ?_⟩⟩⟩
        exact h0
    · rintro σ H' ⟨l, xs, nl, rfl, sm, hx, x10, x0, hall⟩
      have hb1 := ((Bx4.refl hb).same sm).1
      refine ⟨_, rfl, _, rfl, _, rfl, _, _, rfl, .inl (SqL.of hx), b, _, rfl, hb1, by omega, by omega, fun d H2 d0 d1 x2 => ?_⟩
      obtain ⟨u, eu, hu⟩ := atI_all hall d0 (by omega)
      exact ⟨_, _, _, u, rfl, rfl, SqL.of (x2.2 _ _ nl hx), eu, q u H2 (((Bx4.refl hb).same sm).trans x2) (hu.bx4 hb1 x2)⟩
--SPLIT
/-! ### things bent -/
theorem Tg.it {b : Addr} {H : Hp} {v : V} (h : Tg b H v) : It b H v := by
  rcases h with h | ⟨a, xs, rfl, n, e⟩ | ⟨a, xs, rfl, e, _, _⟩
  · exact .inl h
  · exact .inr (.inl ⟨a, xs, rfl, n, e⟩)
  · exact .inr (.inr ⟨a, xs, rfl, e⟩)
def Sm0 (v : V) : Prop := (∃ n : Nat, v = .int (n : Int) ∧ n < 128) ∨ ∃ x : Bool, v = .bl x
theorem st_sm {s : Stt} (h : SOk s) : ∀ u ∈ stV s, Sm0 u := by
  obtain ⟨h1, h2, h3, h4, h5⟩ := h
  exact all_cons (.inl ⟨_, rfl, by omega⟩) (all_cons (.inl ⟨_, rfl, by omega⟩) (all_cons (.inl ⟨_, rfl, by omega⟩) (all_cons (.inr ⟨_, rfl⟩) all_nil)))
theorem Sm0.sml {H : Hp} {v : V} (h : Sm0 v) : Sml H v := by
  rcases h with h | h
  · exact .inl h
  · exact .inr (.inl h)
theorem Sm0.it {b : Addr} {H : Hp} {v : V} (h : Sm0 v) : It b H v := (h.sml (H := H)).it
theorem st_not (s : Stt) : PyData.eqv (stDD s) (.tuple []) = false := by
  unfold stDD
  simp [PyData.eqv, PyData.eqvAll]
def spBent0 : Sp := fun vs H Q _ => ∃ (b : Addr) (v : V), vs = [.ref b, v] ∧ Bag4 H b ∧ Sm0 v ∧ ∀ u H', Bx4 b H H' → Tg b H' u → Q u H'
theorem ok_bent0 {A : Ad} (T : Txt w K mg base A) : FnOk P w K mg base CX0 3 A.a_bent A.d_bent P_bent spBent0 := by
  have G_near := ok_near (P := P) (w := w) (base := base) T
  have G_take := ok_take (P := P) (w := w) (base := base) T
  refine T.F_bent.ok sc_bent (fun vs H Q E h => ?_) (fun cdv Ar outer s H vs Q E hr h => ?_)
  · obtain ⟨b, v, rfl, _⟩ := h
    rfl
  · obtain ⟨b, v, rfl, hb, hv, q⟩ := h
    refine ⟨_, (pss_cons (ps_if (PW.pt (pw_or (pt_not (pt_val (pe_callB (r := rIsi K) call_isi (by rfl) T.z_isinstance (by decide +kernel) (pa_cons (pv 1) (pa_cons (pe_bltn (v := .ty "tuple") (by rfl) T.z_tuple (by decide +kernel) rfl) pa_nil))))) (pw_or (pt_cmpR (r := rEqD K) (op_eqD hr.units) (pv 1) (pe_tup pa_nil) (nomark _)) (pw_or1 (pt_cmpR op_eq (pe_call G_take (hr.mono (by decide)) (by rfl) T.g_take T.F_take.kp T.b_take .nil pass0 (pa_cons (pv 0) (pa_cons pe_int pa_nil))) pe_int (nomark _))))))
      (pss_one (ps_ret (pe_call G_near (hr.mono (by decide)) (by rfl) T.g_near T.F_near.kp T.b_near .nil pass0 (pa_cons (pv 0) (pa_cons (pv 1) pa_nil))))) pss_nil)
      (pss_cons ps_never
      (pss_cons ps_never
      (pss_cons ps_never
      (pss_cons ps_never
      (pss_cons ps_never
      (pss_cons ps_never
      (pss_one ps_never)))))))), ?_⟩
    rcases hv with ⟨n, rfl, hn⟩ | ⟨x, rfl⟩
    · exact ⟨_, rfl, _, _, _, _, false, rfl, ClsV.ty _, TyX.base (.int _), isT_no (by decide), _, rfl, iteT (iteT ⟨_, rfl, _, rfl, b, _, rfl, hb, .inl ⟨n, rfl, hn⟩, q⟩)⟩
    · exact ⟨_, rfl, _, _, _, _, false, rfl, ClsV.ty _, TyX.base (.bl _), isT_no (by decide), _, rfl, iteT (iteT ⟨_, rfl, _, rfl, b, _, rfl, hb, .inr (.inl ⟨x, rfl⟩), q⟩)⟩
def spBent : Sp := fun vs H Q _ => ∃ (b a : Addr) (s : Stt), vs = [.ref b, .ref a] ∧ Bag4 H b ∧ H a = some (.tup (stV s)) ∧ SOk s ∧ ∀ u H', Bx4 b H H' → Tg b H' u → Q u H'
theorem ok_bent {A : Ad} (T : Txt w K mg base A) : FnOk P w K mg base CX0 4 A.a_bent A.d_bent P_bent spBent := by
  have G_near := ok_near (P := P) (w := w) (base := base) T
  have G_take := ok_take (P := P) (w := w) (base := base) T
  have G_bent := ok_bent0 (P := P) (w := w) (base := base) T
  refine T.F_bent.ok sc_bent (fun vs H Q E h => ?_) (fun cdv Ar outer s H vs Q E hr h => ?_)
  · obtain ⟨b, a, s, rfl, _⟩ := h
    rfl
  · obtain ⟨b, a, s', rfl, hb, ha, ok, q⟩ := h
    refine ⟨_, (pss_cons (ps_if (PW.pt (pw_or (pt_not (pt_val (pe_callB (r := rIsi K) call_isi (by rfl) T.z_isinstance (by decide +kernel) (pa_cons (pv 1) (pa_cons (pe_bltn (v := .ty "tuple") (by rfl) T.z_tuple (by decide +kernel) rfl) pa_nil))))) (pw_or (pt_cmpR (r := rEqD K) (op_eqD hr.units) (pv 1) (pe_tup pa_nil) (nomark _)) (pw_or1 (pt_cmpR op_eq (pe_call G_take (hr.mono (by decide)) (by rfl) T.g_take T.F_take.kp T.b_take .nil pass0 (pa_cons (pv 0) (pa_cons pe_int pa_nil))) pe_int (nomark _))))))
      (pss_one (ps_ret (pe_call G_near (hr.mono (by decide)) (by rfl) T.g_near T.F_near.kp T.b_near .nil pass0 (pa_cons (pv 0) (pa_cons (pv 1) pa_nil))))) pss_nil)
      (pss_cons (ps_set (i := 2) sc_bent.nd rfl (Or.inl rfl) (pe_call G_take (hr.mono (by decide)) (by rfl) T.g_take T.F_take.kp T.b_take .nil pass0 (pa_cons (pv 0) (pa_cons (pe_callB (r := fun xs H Q => ∃ p ys, xs = [.ref p] ∧ (SqL K H p ys ∨ SqT K H p ys) ∧ Q (.int ys.length) H) call_len_seq (by rfl) T.z_len PySem.boot_len (pa_cons (pv 1) pa_nil)) pa_nil))))
      (pss_cons (ps_set (i := 3) sc_bent.nd rfl (Or.inl rfl) (pe_call G_take (hr.mono (by decide)) (by rfl) T.g_take T.F_take.kp T.b_take .nil pass0 (pa_cons (pv 0) (pa_cons pe_int pa_nil))))
      (pss_cons (ps_if (pt_cmpR op_eq (pv 3) pe_int (nomark _))
      (pss_one (ps_ret (pe_op op_catW (pe_slice sl_tupW (pv 1) po_none (po_some (pv 2))) (pe_slice sl_tupW (pv 1) (po_some (pe_op op_add (pv 2) pe_int)) po_none)))) pss_nil)
      (pss_cons (ps_if (pt_cmpR op_eq (pv 3) pe_int (nomark _))
      (pss_one (ps_ret (pe_op op_catW (pe_op op_catW (pe_slice sl_tupW (pv 1) po_none (po_some (pv 2))) (pe_tup (pa_cons (pe_call G_near (hr.mono (by decide)) (by rfl) T.g_near T.F_near.kp T.b_near .nil pass0 (pa_cons (pv 0) (pa_cons (pe_ix (r := rIxT K) ix_tup (pv 1) (pv 2) (fun _ _ => rfl)) pa_nil))) pa_nil))) (pe_slice sl_tupW (pv 1) (po_some (pv 2)) po_none)))) pss_nil)
      (pss_cons (ps_if (pt_cmpR op_eq (pv 3) pe_int (nomark _))
      (pss_one (ps_ret (pe_callTy call_list_of (by rfl) T.z_list (by decide +kernel) (pa_cons (pv 1) pa_nil)))) pss_nil)
      (pss_cons (ps_if (pt_cmpR op_eq (pv 3) pe_int (nomark _))
      (pss_one (ps_ret (pe_op op_catW (pe_op op_catW (pe_slice sl_tupW (pv 1) po_none (po_some (pv 2))) (pe_tup (pa_cons (pe_ix (r := rIxT K) ix_tup (pv 1) (pv 2) (fun _ _ => rfl)) pa_nil))) (pe_slice sl_tupW (pv 1) (po_some (pv 2)) po_none)))) pss_nil)
      (pss_one (ps_ret (pe_op op_catW (pe_op op_catW (pe_slice sl_tupW (pv 1) po_none (po_some (pv 2))) (pe_tup (pa_cons (pe_call G_bent (hr.mono (by decide)) (by rfl) T.g_bent T.F_bent.kp T.b_bent .nil pass0 (pa_cons (pv 0) (pa_cons (pe_ix (r := rIxT K) ix_tup (pv 1) (pv 2) (fun _ _ => rfl)) pa_nil))) pa_nil))) (pe_slice sl_tupW (pv 1) (po_some (pe_op op_add (pv 2) pe_int)) po_none))))))))))), ?_⟩
    refine ⟨_, rfl, _, _, _, _, true, rfl, ClsV.ty _, TyX.base (.tup ha), isT_yes, _, rfl, iteF ?_⟩
    refine ⟨_, rfl, sz (by show 0 ≤ 100000; decide), fun p0 hp0 => ?_⟩
    have s0 := same_new hp0 (o := .tup [])
    have ha0 := s0 _ _ ha
    have x0 := (Bx4.refl hb).same s0
    have dk := (stDD_ok s' ok).1
    refine ⟨stDD s', .tuple [], dp_st ha0, .tup (.inl (.inl upd_same)) .nil, dk.shaped, (by decide +kernel), _, rfl, ?_⟩
    rw [st_not]
    refine iteF ⟨_, rfl, b, 6, rfl, x0.1, by decide, by decide, fun d6 H2 _ _ x2 => ?_⟩
    have x02 := x0.trans x2
    have nab := hb.tup ha
    have ha2 := x02.2 _ _ nab ha
    refine ⟨rfl, _, rfl, ite2 (fun _ => ?_) (fun _ => ?_)⟩
    · exact ⟨_, rfl, _, rfl, b, _, rfl, x02.1, .inr (.inr ⟨a, _, rfl, ha2⟩), fun u H' x' tg => q u H' (x02.trans x') tg⟩
    refine ⟨_, rfl, _, rfl, _, _, rfl, .inr (SqT.of ha2), b, _, rfl, x02.1, (by show (0 : Int) < 4; decide), (by show (4 : Int) < 1000000; decide), fun pl H3 pl0 pl4 x3 => ?_⟩
    have pl4 : pl < 4 := pl4
    have x03 := x02.trans x3
    refine ⟨_, rfl, b, 8, rfl, x03.1, by decide, by decide, fun de H4 _ _ x4 => ?_⟩
    have x04 := x03.trans x4
    have ha4 := x04.2 _ _ nab ha
    have it4 : ∀ {H' : Hp}, ∀ u ∈ stV s', It b H' u := fun u hu => (st_sm ok u hu).it
    have len4 : ∀ lo hi, (cutV (stV s') lo hi).length ≤ 4 := fun lo hi => cutV_len (stV s') lo hi
    have fin : ∀ qd H' xs, Bx4 b H H' → H' qd = some (.tup xs) → xs.length ≤ 1000 → (∀ u ∈ xs, It b H' u) → Q (.ref qd) H' := fun qd H' xs x h l k => q _ _ x (.tup h l k)
    obtain ⟨pv, epv, hpv⟩ := atI_all (st_sm ok) pl0 (show pl < ((stV s').length : Int) from pl4)
    refine ⟨_, rfl, rfl, _, rfl, ite2 (fun _ => ?_) (fun _ => ?_)⟩
    · refine ⟨_, rfl, _, rfl, _, rfl, a, _, rfl, ha4, fun q5 H5 s5 h5 => ⟨_, rfl, _, rfl, _, _, rfl, rfl, _, rfl, a, _, rfl, s5 _ _ ha4, fun q6 H6 s6 h6 => ?_⟩⟩
      refine ⟨_, _, _, _, rfl, rfl, s6 _ _ h5, h6, ?_, fun q7 H7 s7 h7 => ?_⟩
      · have := len4 none (some pl)
        have := len4 (some (pl + 1)) none
        omega
      · refine fin q7 H7 _ ((x04.same s5).same (s6.trans s7)) h7 ?_ (all_app (all_cut it4 _ _) (all_cut it4 _ _))
        have := len4 none (some pl)
        have := len4 (some (pl + 1)) none
        rw [List.length_append]
        omega
    have mid : ∀ {q5 q6 : Addr} {H5 H6 : Hp} {u : V}, Same H4 H5 → H5 q5 = some (.tup (cutV (stV s') none (some pl))) → Bx4 b H5 H6 → It b H6 u → H6 q6 = none →
        q5 ≠ b ∧ upd H6 q6 (.tup [u]) q5 = some (.tup (cutV (stV s') none (some pl))) ∧ (cutV (stV s') none (some pl)).length + [u].length ≤ 100000 ∧
        ∀ q7 H7, Same (upd H6 q6 (.tup [u])) H7 → H7 q7 = some (.tup (cutV (stV s') none (some pl) ++ [u])) → H7 a = some (.tup (stV s')) ∧
          ∀ lo q8 H8, Same H7 H8 → H8 q8 = some (.tup (cutV (stV s') lo none)) → H8 q7 = some (.tup (cutV (stV s') none (some pl) ++ [u])) ∧ (cutV (stV s') none (some pl) ++ [u]).length + (cutV (stV s') lo none).length ≤ 100000 ∧
            ∀ q9 H9, Same H8 H9 → H9 q9 = some (.tup ((cutV (stV s') none (some pl) ++ [u]) ++ cutV (stV s') lo none)) → Q (.ref q9) H9 := by
      intro q5 q6 H5 H6 u s5 h5 x6 tu hq6
      have hb5 := (x04.same s5).1
      have n5 := hb5.tup h5
      have s6 := same_new hq6 (o := .tup [u])
      have l1 := len4 none (some pl)
      refine ⟨n5, s6 _ _ (x6.2 _ _ n5 h5), by show _ + 1 ≤ 100000; omega, fun q7 H7 s7 h7 => ⟨s7 _ _ (s6 _ _ (x6.2 _ _ nab (s5 _ _ ha4))), fun lo q8 H8 s8 h8 => ⟨s8 _ _ h7, ?_, fun q9 H9 s9 h9 => ?_⟩⟩⟩
      · have := len4 lo none
        rw [List.length_append]
        show _ + 1 + _ ≤ 100000
        omega
      · have sm := s6.trans (s7.trans (s8.trans s9))
        refine fin q9 H9 _ (((x04.same s5).trans x6).same sm) h9 ?_ (all_app (all_app (all_cut it4 _ _) (all_cons (tu.same sm) all_nil)) (all_cut it4 _ _))
        have := len4 lo none
        rw [List.length_append, List.length_append]
        show _ + 1 + _ ≤ 1000
        omega
    refine ⟨_, rfl, rfl, _, rfl, ite2 (fun _ => ?_) (fun _ => ?_)⟩
    · refine ⟨_, rfl, _, rfl, _, rfl, a, _, rfl, ha4, fun q5 H5 s5 h5 => ⟨_, rfl, _, rfl, _, rfl, _, _, _, pv, rfl, rfl, SqT.of (s5 _ _ ha4), epv, b, _, rfl, (x04.same s5).1, hpv.sml, fun u H6 x6 tu => ⟨sz (by show 1 ≤ 100000; decide), fun q6 hq6 => ?_⟩⟩⟩
      obtain ⟨n5, g5, l5, m5⟩ := mid s5 h5 x6 tu.it hq6
      refine ⟨_, _, _, _, rfl, rfl, g5, upd_same, l5, fun q7 H7 s7 h7 => ?_⟩
      obtain ⟨a7, m7⟩ := m5 q7 H7 s7 h7
      refine ⟨_, rfl, _, rfl, _, rfl, a, _, rfl, a7, fun q8 H8 s8 h8 => ?_⟩
      obtain ⟨g8, l8, m8⟩ := m7 _ q8 H8 s8 h8
      exact ⟨_, _, _, _, rfl, rfl, g8, h8, l8, fun q9 H9 s9 h9 => m8 q9 H9 s9 h9⟩
    refine ⟨_, rfl, rfl, _, rfl, ite2 (fun _ => ?_) (fun _ => ?_)⟩
    · refine ⟨_, rfl, _, _, rfl, .inr (SqT.of ha4), fun l hl => ?_⟩
      exact q _ _ (x04.same (same_new hl)) (.lst (x04.1.ne hl) upd_same)
    refine ⟨_, rfl, rfl, _, rfl, ite2 (fun _ => ?_) (fun _ => ?_)⟩
    · refine ⟨_, rfl, _, rfl, _, rfl, a, _, rfl, ha4, fun q5 H5 s5 h5 => ⟨_, rfl, _, rfl, _, _, _, pv, rfl, rfl, SqT.of (s5 _ _ ha4), epv, sz (by show 1 ≤ 100000; decide), fun q6 hq6 => ?_⟩⟩
      obtain ⟨n5, g5, l5, m5⟩ := mid s5 h5 (Bx4.refl (x04.same s5).1) hpv.it hq6
      refine ⟨_, _, _, _, rfl, rfl, g5, upd_same, l5, fun q7 H7 s7 h7 => ?_⟩
      obtain ⟨a7, m7⟩ := m5 q7 H7 s7 h7
      refine ⟨_, rfl, _, rfl, _, rfl, a, _, rfl, a7, fun q8 H8 s8 h8 => ?_⟩
      obtain ⟨g8, l8, m8⟩ := m7 _ q8 H8 s8 h8
      exact ⟨_, _, _, _, rfl, rfl, g8, h8, l8, fun q9 H9 s9 h9 => m8 q9 H9 s9 h9⟩
    · refine ⟨_, rfl, _, rfl, _, rfl, a, _, rfl, ha4, fun q5 H5 s5 h5 => ⟨_, rfl, _, rfl, _, rfl, _, _, _, pv, rfl, rfl, SqT.of (s5 _ _ ha4), epv, b, _, rfl, (x04.same s5).1, hpv, fun u H6 x6 tu => ⟨sz (by show 1 ≤ 100000; decide), fun q6 hq6 => ?_⟩⟩⟩
      obtain ⟨n5, g5, l5, m5⟩ := mid s5 h5 x6 tu.it hq6
      refine ⟨_, _, _, _, rfl, rfl, g5, upd_same, l5, fun q7 H7 s7 h7 => ?_⟩
      obtain ⟨a7, m7⟩ := m5 q7 H7 s7 h7
      refine ⟨_, rfl, _, rfl, _, _, rfl, rfl, _, rfl, a, _, rfl, a7, fun q8 H8 s8 h8 => ?_⟩
      obtain ⟨g8, l8, m8⟩ := m7 _ q8 H8 s8 h8
      exact ⟨_, _, _, _, rfl, rfl, g8, h8, l8, fun q9 H9 s9 h9 => m8 q9 H9 s9 h9⟩
--SPLIT
/-! ### settings drawn -/
def spSetting : Sp := fun vs H Q _ => ∃ b : Addr, vs = [.ref b] ∧ Bag4 H b ∧ ∀ (s : Stt) l H', SOk s → Bx4 b H H' → H' l = some (.tup (stV s)) → Q (.ref l) H'
theorem ok_setting {A : Ad} (T : Txt w K mg base A) : FnOk P w K mg base CX0 2 A.a_setting A.d_setting P_setting spSetting := by
  have G_take := ok_take (P := P) (w := w) (base := base) T
  refine T.F_setting.ok sc_setting (fun vs H Q E h => ?_) (fun cdv Ar outer s H vs Q E hr h => ?_)
  · obtain ⟨b, rfl, _⟩ := h
    rfl
  · obtain ⟨b, rfl, hb, q⟩ := h
    refine ⟨_, (pss_one (ps_ret (pe_tup (pa_cons (pe_op op_add pe_int (pe_call G_take (hr.mono (by decide)) (by rfl) T.g_take T.F_take.kp T.b_take .nil pass0 (pa_cons (pv 0) (pa_cons pe_int pa_nil)))) (pa_cons (pe_ix (r := rIxL K) ix_list (pe_lst (pa_cons pe_int (pa_cons pe_int (pa_cons pe_int pa_nil)))) (pe_call G_take (hr.mono (by decide)) (by rfl) T.g_take T.F_take.kp T.b_take .nil pass0 (pa_cons (pv 0) (pa_cons pe_int pa_nil))) (fun _ _ => rfl)) (pa_cons (pe_op op_add pe_int (pe_call G_take (hr.mono (by decide)) (by rfl) T.g_take T.F_take.kp T.b_take .nil pass0 (pa_cons (pv 0) (pa_cons pe_int pa_nil)))) (pa_cons (pe_cmpR op_eq (pe_call G_take (hr.mono (by decide)) (by rfl) T.g_take T.F_take.kp T.b_take .nil pass0 (pa_cons (pv 0) (pa_cons pe_int pa_nil))) pe_int (nomark _)) pa_nil))))))), ?_⟩
    refine ⟨_, rfl, b, 57, rfl, hb, by decide, by decide, fun d1 H1 a0 a1 x1 => ⟨_, _, rfl, rfl, sz (by show 3 ≤ 100000; decide), fun p hp => ?_⟩⟩
    have x1' := x1.same (same_new hp (o := .lst [.int 1, .int 2, .int 4]))
    have npb : p ≠ b := x1.1.ne hp
    refine ⟨_, rfl, b, 3, rfl, x1'.1, by decide, by decide, fun d2 H2 b0 b1 x2 => ?_⟩
    have hp2 := x2.2 _ _ npb (upd_same (a := p) (o := .lst [.int 1, .int 2, .int 4]))
    obtain ⟨ev, ee, hev⟩ : ∃ ev : Nat, atI [V.int 1, .int 2, .int 4] d2 = some (.int (ev : Int)) ∧ (ev = 1 ∨ ev = 2 ∨ ev = 4) := by
      rcases (show d2 = 0 ∨ d2 = 1 ∨ d2 = 2 by omega) with rfl | rfl | rfl
      · exact ⟨1, rfl, .inl rfl⟩
      · exact ⟨2, rfl, .inr (.inl rfl)⟩
      · exact ⟨4, rfl, .inr (.inr rfl)⟩
    refine ⟨_, _, _, _, rfl, rfl, SqL.of hp2, ee, _, rfl, b, 4, rfl, x2.1, by decide, by decide, fun d3 H3 c0 c1 x3 => ⟨_, _, rfl, rfl, _, rfl, b, 2, rfl, x3.1, by decide, by decide, fun d4 H4 _ _ x4 => ⟨rfl, sz (by show 4 ≤ 100000; decide), fun l hl => ?_⟩⟩⟩
    obtain ⟨n1, e1⟩ := Int.eq_ofNat_of_zero_le a0
    obtain ⟨n3, e3⟩ := Int.eq_ofNat_of_zero_le c0
    refine q ⟨8 + n1, ev, 1 + n3, decide (V.int d4 = V.int 1)⟩ l _ ⟨?_, ?_, hev, ?_, ?_⟩ ((x1'.trans (x2.trans (x3.trans x4))).same (same_new hl)) ?_
    · show 8 ≤ 8 + n1
      omega
    · show 8 + n1 ≤ 64
      omega
    · show 1 ≤ 1 + n3
      omega
    · show 1 + n3 ≤ 4
      omega
    · rw [upd_same]
      unfold stV
      rw [show ((8 + n1 : Nat) : Int) = 8 + d1 by omega, show ((1 + n3 : Nat) : Int) = 1 + d3 by omega]
def spLesser : Sp := fun vs H Q _ => ∃ x y : Nat, vs = [.int (x : Int), .int (y : Int)] ∧ Q (.int ((min x y : Nat) : Int)) H
theorem ok_lesser {A : Ad} (T : Txt w K mg base A) : FnOk P w K mg base CX0 1 A.a_lesser A.d_lesser P_lesser spLesser := by
  refine T.F_lesser.ok sc_lesser (fun vs H Q E h => ?_) (fun cdv Ar outer s H vs Q E hr h => ?_)
  · obtain ⟨x, y, rfl, _⟩ := h
    rfl
  · obtain ⟨x, y, rfl, q⟩ := h
    refine ⟨_, (pss_cons (ps_if (pt_cmpR op_lt (pv 0) (pv 1) (nomark _))
      (pss_one (ps_ret (pv 0))) pss_nil)
      (pss_one (ps_ret (pv 1)))), ?_⟩
    refine ⟨_, rfl, _, rfl, _, _, rfl, rfl, _, rfl, ite2 (fun e => ?_) (fun e => ?_)⟩
    · have lt := of_decide_eq_true e
      rw [show min x y = x by omega] at q
      exact ⟨_, rfl, q⟩
    · have lt : ¬ ((x : Int) < (y : Int)) := fun z => e (decide_eq_true z)
      rw [show min x y = y by omega] at q
      exact ⟨_, rfl, q⟩
--SPLIT
theorem walkZT {a b : Addr} {xs ys : List V} {n : Nat} (l1 : xs.length = n) (l2 : ys.length = n) : Walk (RZ.ItzT K a b) n (fun H => SqT K H a xs ∧ SqT K H b ys) (YPair (fun i => xs[i]?) (fun i => ys[i]?)) where
  goes i _ hi g := by
    have e1 : i < xs.length := by omega
    have e2 : i < ys.length := by omega
    exact ⟨xs, ys, xs[i], ys[i], g.1, g.2, List.getElem?_eq_getElem e1, List.getElem?_eq_getElem e2⟩
  stops _ g := ⟨xs, ys, g.1, g.2, .inl (by omega)⟩
  yields i _ v _ _ g y := by
    obtain ⟨T, x, z, e1, e2, e3, e4, e5⟩ := y
    exact ⟨T, x, z, e1, e2, e3, e4 xs g.1, e5 ys g.2⟩
theorem cut3 (s : Stt) : cutV (stV s) none (some 3) = [.int (s.br : Int), .int (s.ev : Int), .int (s.sp : Int)] := rfl
theorem agr_r (s t : Stt) : agr t (agr s t) = agr s t := by
  rw [agr_comm, agr_comm s t, agr_left]
/-- a pair of settings that agree on one -/
def Prd (H : Hp) (g : Stt) (u : V) : Prop := ∃ tp x y sx sy, u = .ref tp ∧ H tp = some (.tup [.ref x, .ref y]) ∧ H x = some (.tup (stV sx)) ∧ H y = some (.tup (stV sy)) ∧ agr sx sy = g
theorem Prd.same {H H' : Hp} {g : Stt} {u : V} (h : Prd H g u) (s : Same H H') : Prd H' g u := by
  obtain ⟨tp, x, y, sx, sy, e, h1, h2, h3, h4⟩ := h
  exact ⟨tp, x, y, sx, sy, e, s _ _ h1, s _ _ h2, s _ _ h3, h4⟩
def mins (s t : Stt) : List V := [.int ((min s.br t.br : Nat) : Int), .int ((min s.ev t.ev : Nat) : Int), .int ((min s.sp t.sp : Nat) : Int)]
def spLaw (K : PySem.W.Frag) : Sp := fun vs H Q _ => ∃ (a : Addr) (ns : List Int), vs = [.ref a] ∧ SqL K H a (ns.map V.int) ∧ ns.length ≤ 63 ∧ ∀ H', Q (.bl true) H'
theorem ok_law {A : Ad} (T : Txt w K mg base A) : FpG.FnG P w K mg base CX0 5 A.a_law A.d_law P_law (spLaw K) := by
  have G_bag := ok_bag (P := P) (w := w) (base := base) T
  have G_setting := ok_setting (P := P) (w := w) (base := base) T
  have G_take := ok_take (P := P) (w := w) (base := base) T
  have G_bent := ok_bent (P := P) (w := w) (base := base) T
  have G_is_setting := ok_is_setting (P := P) (w := w) (base := base) T
  have G_like := ok_like (P := P) (w := w) (base := base) T
  have G_lesser := ok_lesser (P := P) (w := w) (base := base) T
  have G_agreed := ok_agreed (P := P) (w := w) (base := base) T
  have G_is_setting_l := ok_is_setting_l (P := P) (w := w) (base := base) T
  refine FpG.okG T.F_law sc_law (fun vs H Q E h => ?_) (fun cdv Ar outer s H vs Q E hgd hr h => ?_)
  · obtain ⟨a, ns, rfl, _⟩ := h
    rfl
  · obtain ⟨a, ns, rfl, hS, ln, q⟩ := h
    refine ⟨_, (pss_cons (ps_for PassesOwn.never rfl (pi_range1 (by rfl) T.z_range (pa_cons (pe_callB (call_max2 rfl) (by rfl) T.z_max (by decide +kernel) (pa_cons pe_int (pa_cons (pe_callB (call_min2 rfl) (by rfl) T.z_min (by decide +kernel) (pa_cons pe_int (pa_cons (pe_callB (r := fun xs H Q => ∃ p ys, xs = [.ref p] ∧ (SqL K H p ys ∨ SqT K H p ys) ∧ Q (.int ys.length) H) call_len_seq (by rfl) T.z_len PySem.boot_len (pa_cons (pv 0) pa_nil)) pa_nil))) pa_nil))) pa_nil)) (pg_name (i := 1) sc_law.nd rfl (Or.inl rfl))
      (pss_cons (ps_set (i := 2) sc_law.nd rfl (Or.inl rfl) (pe_call G_bag (hr.mono (by decide)) (by rfl) T.g_bag T.F_bag.kp T.b_bag .nil pass0 (pa_cons (pv 0) (pa_cons (pv 1) pa_nil))))
      (pss_cons (ps_set (i := 3) sc_law.nd rfl (Or.inl rfl) (pe_call G_setting (hr.mono (by decide)) (by rfl) T.g_setting T.F_setting.kp T.b_setting .nil pass0 (pa_cons (pv 2) pa_nil)))
      (pss_cons (ps_set (i := 4) sc_law.nd rfl (Or.inl rfl) (pe_call G_setting (hr.mono (by decide)) (by rfl) T.g_setting T.F_setting.kp T.b_setting .nil pass0 (pa_cons (pv 2) pa_nil)))
      (Evl.pss_cut (ps_if (pt_cmpR op_eq (pe_call G_take (hr.mono (by decide)) (by rfl) T.g_take T.F_take.kp T.b_take .nil pass0 (pa_cons (pv 2) (pa_cons pe_int pa_nil))) pe_int (nomark _))
      (pss_one (ps_set (i := 4) sc_law.nd rfl (Or.inl rfl) (pe_tup (pa_cons (pe_ix (r := rIxT K) ix_tup (pv 4) pe_int (fun _ _ => rfl)) (pa_cons (pe_ix (r := rIxT K) ix_tup (pv 3) pe_int (fun _ _ => rfl)) (pa_cons (pe_ix (r := rIxT K) ix_tup (pv 4) pe_int (fun _ _ => rfl)) (pa_cons (pe_ix (r := rIxT K) ix_tup (pv 3) pe_int (fun _ _ => rfl)) pa_nil))))))) pss_nil)
      (pss_cons (ps_set (i := 5) sc_law.nd rfl (Or.inl rfl) (pe_lst (pa_cons (pv 3) (pa_cons (pv 4) (pa_cons (pe_call G_bent (hr.mono (by decide)) (by rfl) T.g_bent T.F_bent.kp T.b_bent .nil pass0 (pa_cons (pv 2) (pa_cons (pv 3) pa_nil))) (pa_cons (pe_call G_bent (hr.mono (by decide)) (by rfl) T.g_bent T.F_bent.kp T.b_bent .nil pass0 (pa_cons (pv 2) (pa_cons (pv 3) pa_nil))) (pa_cons (pe_call G_bent (hr.mono (by decide)) (by rfl) T.g_bent T.F_bent.kp T.b_bent .nil pass0 (pa_cons (pv 2) (pa_cons (pv 4) pa_nil))) (pa_cons (pe_call G_bent (hr.mono (by decide)) (by rfl) T.g_bent T.F_bent.kp T.b_bent .nil pass0 (pa_cons (pv 2) (pa_cons (pv 3) pa_nil))) pa_nil))))))))
      (pss_cons (ps_set (i := 5) sc_law.nd rfl (Or.inl rfl) (pe_op op_cat (pv 5) (pe_lst (pa_cons pe_non (pa_cons (pe_tup pa_nil) (pa_cons pe_int (pa_cons pe_str (pa_cons (pe_callTy call_list_of (by rfl) T.z_list (by decide +kernel) (pa_cons (pv 3) pa_nil)) (pa_cons (pe_tup (pa_cons (pv 3) pa_nil)) (pa_cons (pe_op op_catW (pv 3) (pv 4)) (pa_cons (pe_tup (pa_cons pe_int (pa_cons pe_int (pa_cons pe_int (pa_cons pe_bl pa_nil))))) pa_nil)))))))))))
      (pss_cons (ps_expr (pe_bm PySem.F.plainAttrs_list PySem.F.slot_list_append PySem.F.type_list_append mt_append (pv 5) (pa_cons (pe_op op_catW (pe_slice sl_tupW (pv 3) po_none (po_some pe_int)) (pe_tup (pa_cons (pe_callTy call_int1 (by rfl) T.z_int (by decide +kernel) (pa_cons (pe_ix (r := rIxT K) ix_tup (pv 3) pe_int (fun _ _ => rfl)) pa_nil)) pa_nil))) pa_nil)))
      (pss_cons (ps_for PassesOwn.never rfl (pi_list (pv 5)) (pg_name (i := 6) sc_law.nd rfl (Or.inl rfl))
      (pss_cons (ps_set (i := 7) sc_law.nd rfl (Or.inl rfl) (pe_call G_is_setting (hr.mono (by decide)) (by rfl) T.g_is_setting T.F_is_setting.kp T.b_is_setting .nil pass0 (pa_cons (pv 6) pa_nil)))
      (pss_one (ps_if (PW.pt (pw_or (pt_not (pt_val (pe_callB (r := rIsi K) call_isi (by rfl) T.z_isinstance (by decide +kernel) (pa_cons (pv 7) (pa_cons (pe_bltn (v := .ty "bool") (by rfl) T.z_bool (by decide +kernel) rfl) pa_nil))))) (pw_or1 (pt_cmpR op_ne (pv 7) (pe_call G_is_setting_l (hr.mono (by decide)) (by rfl) T.g_is_setting_l T.F_is_setting_l.kp T.b_is_setting_l .nil pass0 (pa_cons (pv 6) pa_nil)) (nomark _)))))
      (pss_one (ps_ret pe_bl)) pss_nil))))
      (pss_cons (ps_set (i := 8) sc_law.nd rfl (Or.inl rfl) (pe_callTy call_tuple_of (by rfl) T.z_tuple (by decide +kernel) (pa_cons (pe_lc (own := [("_law_a", 11), ("_law_b", 12)]) (g := gTup K 2 (gCons (gName 11) (gCons (gName 12) gNil))) (tt := tYes) (by rfl) sc_law.nd (RZ.pi_zipA (by rfl) T.z_zip (pa_cons (pe_slice sl_tupW (pv 3) po_none (po_some pe_int)) (pa_cons (pe_slice sl_tupW (pv 4) po_none (po_some pe_int)) pa_nil))) (blkOk_by (own := [("_law_a", 11), ("_law_b", 12)]) (N := N_law) (sc := defScope s_law) (by decide +kernel)) (fun _ _ _ _ _ => pg_tup (by rfl) (pgs_cons (pg_name (i := 11) sc_law.nd rfl (Or.inl rfl)) (pgs_cons (pg_name (i := 12) sc_law.nd rfl (Or.inl rfl)) pgs_nil))) (fun _ _ _ _ _ => pts_nil) (fun _ _ _ _ _ => (pe_call G_lesser (hr.mono (by decide)) (by rfl) T.g_lesser T.F_lesser.kp T.b_lesser .nil pass0 (pa_cons (pv 11) (pa_cons (pv 12) pa_nil))))) pa_nil)))
      (Evl.pss_cut (ps_set (i := 9) sc_law.nd rfl (Or.inl rfl) (pe_op op_catW (pv 8) (pe_tup (pa_cons (pe_and (pe_cmpR op_isBl (pe_ix (r := rIxT K) ix_tup (pv 3) pe_int (fun _ _ => rfl)) pe_bl (nomark _)) (pe_one (pe_cmpR op_isBl (pe_ix (r := rIxT K) ix_tup (pv 4) pe_int (fun _ _ => rfl)) pe_bl (nomark _)))) pa_nil))))
      (pss_cons (ps_for PassesOwn.never rfl (pi_list (pe_lst (pa_cons (pe_tup (pa_cons (pv 3) (pa_cons (pv 4) pa_nil))) (pa_cons (pe_tup (pa_cons (pv 4) (pa_cons (pv 3) pa_nil))) (pa_cons (pe_tup (pa_cons (pv 9) (pa_cons (pv 3) pa_nil))) (pa_cons (pe_tup (pa_cons (pv 4) (pa_cons (pv 9) pa_nil))) (pa_cons (pe_tup (pa_cons (pv 9) (pa_cons (pv 9) pa_nil))) pa_nil))))))) (pg_name (i := 10) sc_law.nd rfl (Or.inl rfl))
      (pss_one (ps_if (PW.pt (pw_or (pt_not (pt_val (FpG.pe_callG G_like hgd (hr.mono (by decide)) (by rfl) T.g_like T.F_like.kp T.b_like .nil pass0 (pa_cons (pe_call G_agreed (hr.mono (by decide)) (by rfl) T.g_agreed T.F_agreed.kp T.b_agreed .nil pass0 (pa_cons (pe_ix (r := rIxT K) ix_tup (pv 10) pe_int (fun _ _ => rfl)) (pa_cons (pe_ix (r := rIxT K) ix_tup (pv 10) pe_int (fun _ _ => rfl)) pa_nil))) (pa_cons (pv 9) pa_nil))))) (pw_or1 (pt_cmpR op_notBl (pe_call G_is_setting (hr.mono (by decide)) (by rfl) T.g_is_setting T.F_is_setting.kp T.b_is_setting .nil pass0 (pa_cons (pe_call G_agreed (hr.mono (by decide)) (by rfl) T.g_agreed T.F_agreed.kp T.b_agreed .nil pass0 (pa_cons (pe_ix (r := rIxT K) ix_tup (pv 10) pe_int (fun _ _ => rfl)) (pa_cons (pe_ix (r := rIxT K) ix_tup (pv 10) pe_int (fun _ _ => rfl)) pa_nil))) pa_nil)) pe_bl (nomark _)))))
      (pss_one (ps_ret pe_bl)) pss_nil)))
      (pss_one (ps_if (pt_not (pt_val (FpG.pe_callG G_like hgd (hr.mono (by decide)) (by rfl) T.g_like T.F_like.kp T.b_like .nil pass0 (pa_cons (pe_call G_agreed (hr.mono (by decide)) (by rfl) T.g_agreed T.F_agreed.kp T.b_agreed .nil pass0 (pa_cons (pv 3) (pa_cons (pv 3) pa_nil))) (pa_cons (pv 3) pa_nil)))))
      (pss_one (ps_ret pe_bl)) pss_nil))))))))))))))
      (pss_one (ps_ret pe_bl))), ?_⟩
    refine ⟨_, rfl, _, _, rfl, .inl hS, _, _, rfl, _, _, rfl, _, rfl, ?_, ?_, for_range (fun i σ H' => ∃ y1 y2 y3 y4 y5 y6 y7 y8 y9 y10 y11 y12, σ = [some (.ref a), y1, y2, y3, y4, y5, y6, y7, y8, y9, y10, y11, y12] ∧ Same H H') ⟨none, none, none, none, none, none, none, none, none, none, none, none, rfl, Same.refl _⟩ ?_ ?_⟩
    · rw [List.length_map]
      split <;> split <;> omega
    · rw [List.length_map]
      split <;> split <;> omega
    · rintro i σ H2 hi ⟨y1, y2, y3, y4, y5, y6, y7, y8, y9, y10, y11, y12, rfl, e2⟩
      have hi8 : i < 8 := by
        rw [List.length_map] at hi
        revert hi
        split <;> split <;> omega
      refine ⟨_, rfl, _, rfl, a, ns, _, rfl, e2.seq hS, by omega, by omega, fun b G0 hb s0 B0 => ?_⟩
      refine ⟨_, rfl, b, rfl, B0, fun s1 o1 G1 ok1 x1 h1 => ⟨_, rfl, b, rfl, x1.1, fun t2 o2 G2 ok2 x2 h2 => ?_⟩⟩
      have n1 : o1 ≠ b := x1.1.tup h1
      refine ⟨fun σ G => ∃ t2 o2, SOk t2 ∧ Bx4 b G0 G ∧ G o1 = some (.tup (stV s1)) ∧ G o2 = some (.tup (stV t2)) ∧ σ = [some (.ref a), some (.int (0 + (i : Int))), some (.ref b), some (.ref o1), some (.ref o2), y5, y6, y7, y8, y9, y10, y11, y12], ?_, ?_⟩
      · refine ⟨_, rfl, b, 3, rfl, x2.1, by decide, by decide, fun d3 G3 _ _ x3 => ?_⟩
        have xx := x1.trans (x2.trans x3)
        have h13 := (x2.trans x3).2 _ _ n1 h1
        have h23 := x3.2 _ _ (x2.1.tup h2) h2
        refine ⟨rfl, _, rfl, ite2 (fun _ => ?_) (fun _ => ?_)⟩
        · refine ⟨_, rfl, _, _, _, V.int (t2.br : Int), rfl, rfl, SqT.of h23, atI_nat (j := 0) rfl, _, rfl, _, _, _, V.int (s1.ev : Int), rfl, rfl, SqT.of h13, atI_nat (j := 1) rfl, _, rfl, _, _, _, V.int (t2.sp : Int), rfl, rfl, SqT.of h23, atI_nat (j := 2) rfl, _, rfl, _, _, _, V.bl s1.md, rfl, rfl, SqT.of h13, atI_nat (j := 3) rfl, sz (by show 4 ≤ 100000; decide), fun l hl => ?_⟩
          have sl := same_new hl (o := .tup (stV ⟨t2.br, s1.ev, t2.sp, s1.md⟩))
          exact ⟨⟨t2.br, s1.ev, t2.sp, s1.md⟩, l, ⟨ok2.1, ok2.2.1, ok1.2.2.1, ok2.2.2.2.1, ok2.2.2.2.2⟩, xx.same sl, sl _ _ h13, upd_same, rfl⟩
        · exact ⟨t2, o2, ok2, xx, h13, h23, rfl⟩
      · rintro σ G3 ⟨t2, o2, ok2, x3, h1, h2, rfl⟩
        have n1 : o1 ≠ b := x3.1.tup h1
        have n2 : o2 ≠ b := x3.1.tup h2
        refine ⟨_, rfl, _, rfl, _, rfl, _, rfl, b, o1, s1, rfl, x3.1, h1, ok1, fun u1 G4 x4 k1 => ?_⟩
        have h14 := x4.2 _ _ n1 h1
        refine ⟨_, rfl, _, rfl, b, o1, s1, rfl, x4.1, h14, ok1, fun u2 G5 x5 k2 => ?_⟩
        have h15 := x5.2 _ _ n1 h14
        have h25 := (x4.trans x5).2 _ _ n2 h2
        refine ⟨_, rfl, _, rfl, b, o2, t2, rfl, x5.1, h25, ok2, fun u3 G6 x6 k3 => ?_⟩
        have h16 := x6.2 _ _ n1 h15
        refine ⟨_, rfl, _, rfl, b, o1, s1, rfl, x6.1, h16, ok1, fun u4 G7 x7 k4 => ⟨sz (by show 6 ≤ 100000; decide), fun l7 hl7 => ?_⟩⟩
        have h17 := x7.2 _ _ n1 h16
        have h27 := (x6.trans x7).2 _ _ n2 h25
        have z7 := x3.trans (x4.trans (x5.trans (x6.trans x7)))
        have k1 := k1.bx4 x4.1 (x5.trans (x6.trans x7))
        have k2 := k2.bx4 x5.1 (x6.trans x7)
        have k3 := k3.bx4 x6.1 x7
        have s8 := same_new hl7 (o := .lst [.ref o1, .ref o2, u1, u2, u3, u4])
        refine ⟨_, rfl, sz (by show 0 ≤ 100000; decide), fun p1 hp1 => ?_⟩
        have s9 := same_new hp1 (o := .tup [])
        refine ⟨_, rfl, _, _, rfl, .inr (SqT.of ((s8.trans s9) _ _ h17)), fun p2 hp2 => ?_⟩
        have s10 := same_new hp2 (o := .lst (stV s1))
        refine ⟨_, rfl, sz (by show 1 ≤ 100000; decide), fun p3 hp3 => ?_⟩
        have s11 := same_new hp3 (o := .tup [.ref o1])
        have t11 := s8.trans (s9.trans (s10.trans s11))
        refine ⟨_, rfl, _, rfl, _, _, _, _, rfl, rfl, t11 _ _ h17, t11 _ _ h27, (by show 8 ≤ 100000; decide), fun p4 G12 s12 h12 => ?_⟩
        refine ⟨sz (by show 4 ≤ 100000; decide), fun p5 hp5 => ⟨sz (by show 8 ≤ 100000; decide), fun l8 hl8 => ?_⟩⟩
        have s13 := same_new hp5 (o := .tup [.int 8, .int 3, .int 1, .bl true])
        have s14 := same_new hl8 (o := .lst [.non, .ref p1, .int 7, .str (Str.ofString "set"), .ref p2, .ref p3, .ref p4, .ref p5])
        refine ⟨_, _, _, _, rfl, rfl, (s9.trans (s10.trans (s11.trans (s12.trans (s13.trans s14))))) _ _ upd_same, upd_same, sz (by show 14 ≤ 100000; decide), fun l9 hl9 => ?_⟩
        have t14 := t11.trans (s12.trans (s13.trans s14))
        have z14 := z7.same t14
        have h114 := t14 _ _ h17
        have h214 := t14 _ _ h27
        have all14 : ∀ u ∈ [V.ref o1, .ref o2, u1, u2, u3, u4] ++ [V.non, .ref p1, .int 7, .str (Str.ofString "set"), .ref p2, .ref p3, .ref p4, .ref p5], Tg b (upd (upd G12 p5 (.tup [.int 8, .int 3, .int 1, .bl true])) l8 (.lst [.non, .ref p1, .int 7, .str (Str.ofString "set"), .ref p2, .ref p3, .ref p4, .ref p5])) u := by
          refine all_app (all_cons (.tup h114 (by show 4 ≤ 1000; decide) (st_it s1)) (all_cons (.tup h214 (by show 4 ≤ 1000; decide) (st_it t2)) (all_cons (k1.same t14) (all_cons (k2.same t14) (all_cons (k3.same t14) (all_cons (k4.same t14) all_nil)))))) ?_
          have np2 : p2 ≠ b := (z7.same (s8.trans s9)).1.ne hp2
          have g1 := (s10.trans (s11.trans (s12.trans (s13.trans s14)))) _ _ (upd_same (a := p1) (o := .tup []))
          have g2 := (s11.trans (s12.trans (s13.trans s14))) _ _ (upd_same (a := p2) (o := .lst (stV s1)))
          have g3 := (s12.trans (s13.trans s14)) _ _ (upd_same (a := p3) (o := .tup [.ref o1]))
          have g4 := (s13.trans s14) _ _ h12
          have g5 := s14 _ _ (upd_same (a := p5) (o := .tup [.int 8, .int 3, .int 1, .bl true]))
          refine all_cons .non (all_cons (.tup g1 (by decide) all_nil) (all_cons (.int 7) (all_cons (.word (by decide +kernel)) (all_cons (.lst np2 g2) (all_cons (.tup g3 (by show 1 ≤ 1000; decide) (all_cons (.inr (.inr ⟨_, _, rfl, h114⟩)) all_nil)) (all_cons (.tup g4 (by show 8 ≤ 1000; decide) (all_app (st_it s1) (st_it t2))) (all_cons (.tup g5 (by show 4 ≤ 1000; decide) ?_) all_nil)))))))
          exact all_cons (.inl (.inr (.inr (.inl ⟨_, rfl⟩)))) (all_cons (.inl (.inr (.inr (.inl ⟨_, rfl⟩)))) (all_cons (.inl (.inr (.inr (.inl ⟨_, rfl⟩)))) (all_cons (.inl (.inr (.inl ⟨_, rfl⟩))) all_nil)))
        have s15 := same_new hl9 (o := .lst ([V.ref o1, .ref o2, u1, u2, u3, u4] ++ [V.non, .ref p1, .int 7, .str (Str.ofString "set"), .ref p2, .ref p3, .ref p4, .ref p5]))
        refine ⟨_, rfl, .inl ⟨rfl, _, SqL.of upd_same⟩, _, rfl, _, rfl, o1, _, rfl, s15 _ _ h114, fun q16 G16 s16 h16 => ?_⟩
        refine ⟨_, rfl, _, _, _, V.bl s1.md, rfl, rfl, SqT.of ((s15.trans s16) _ _ h114), atI_nat (j := 3) rfl, .inr ⟨_, rfl, sz (by show 1 ≤ 100000; decide), fun p17 hp17 => ?_⟩⟩
        have s17 := same_new hp17 (o := .tup [.int (if s1.md = true then 1 else 0)])
        refine ⟨_, _, _, _, rfl, rfl, s17 _ _ h16, upd_same, (by show 4 ≤ 100000; decide), fun q18 G18 s18 h18 => ?_⟩
        have l918 := (s16.trans (s17.trans s18)) _ _ (upd_same (a := l9) (o := .lst ([V.ref o1, .ref o2, u1, u2, u3, u4] ++ [V.non, .ref p1, .int 7, .str (Str.ofString "set"), .ref p2, .ref p3, .ref p4, .ref p5])))
        refine ⟨_, _, _, rfl, rfl, l918, szl (by show 14 < 100000; decide), ?_⟩
        have n918 : q18 ≠ l9 := fun z => by
          rw [z, l918] at h18
          cases h18
        have sf : Same (upd (upd G12 p5 (.tup [.int 8, .int 3, .int 1, .bl true])) l8 (.lst [.non, .ref p1, .int 7, .str (Str.ofString "set"), .ref p2, .ref p3, .ref p4, .ref p5])) (upd G18 l9 (.lst (([V.ref o1, .ref o2, u1, u2, u3, u4] ++ [V.non, .ref p1, .int 7, .str (Str.ofString "set"), .ref p2, .ref p3, .ref p4, .ref p5]) ++ [.ref q18]))) := fun c o e => by
          rw [upd_ne (ne_of_none e hl9)]
          exact (s15.trans (s16.trans (s17.trans s18))) _ _ e
        have h18f : upd G18 l9 (.lst (([V.ref o1, .ref o2, u1, u2, u3, u4] ++ [V.non, .ref p1, .int 7, .str (Str.ofString "set"), .ref p2, .ref p3, .ref p4, .ref p5]) ++ [.ref q18])) q18 = some (.tup (cutV (stV s1) none (some 3) ++ [.int (if s1.md = true then 1 else 0)])) := by
          rw [upd_ne n918]
          exact h18
        have lf := upd_same (H := G18) (a := l9) (o := .lst (([V.ref o1, .ref o2, u1, u2, u3, u4] ++ [V.non, .ref p1, .int 7, .str (Str.ofString "set"), .ref p2, .ref p3, .ref p4, .ref p5]) ++ [.ref q18]))
        generalize upd G18 l9 (.lst (([V.ref o1, .ref o2, u1, u2, u3, u4] ++ [V.non, .ref p1, .int 7, .str (Str.ofString "set"), .ref p2, .ref p3, .ref p4, .ref p5]) ++ [.ref q18])) = Gf at sf h18f lf ⊢
        have zf := z14.same sf
        have h1f := sf _ _ h114
        have h2f := sf _ _ h214
        have allf : ∀ u ∈ ([V.ref o1, .ref o2, u1, u2, u3, u4] ++ [V.non, .ref p1, .int 7, .str (Str.ofString "set"), .ref p2, .ref p3, .ref p4, .ref p5]) ++ [.ref q18], Tg b Gf u := by
          refine all_app (fun u hu => (all14 u hu).same sf) (all_cons (.tup h18f (by show 4 ≤ 1000; decide) (all_app (all_cut (st_it s1) _ _) (all_cons (.inl (.inr (.inr (.inl ⟨_, rfl⟩)))) all_nil))) all_nil)
        generalize ([V.ref o1, .ref o2, u1, u2, u3, u4] ++ [V.non, .ref p1, .int 7, .str (Str.ofString "set"), .ref p2, .ref p3, .ref p4, .ref p5]) ++ [.ref q18] = things at lf allf
        refine ⟨_, rfl, l9, rfl, ⟨_, SqL.of lf⟩, for_list (K := K) (a := l9) (xs := things) (fun _ σ G => ∃ y6 y7, σ = [some (.ref a), some (.int (0 + (i : Int))), some (.ref b), some (.ref o1), some (.ref o2), some (.ref l9), y6, y7, y8, y9, y10, y11, y12] ∧ G = Gf) ⟨y6, y7, rfl, rfl⟩ (fun i σ G _ ⟨_, _, _, e⟩ => SqL.of (e ▸ lf)) ?_ ?_⟩
        · rintro j u σ G ej ⟨y6, y7, rfl, rfl⟩
          have tu := allf u (List.mem_of_getElem? ej)
          obtain ⟨r, sr⟩ := setR_some tu
          refine ⟨_, rfl, b, u, r, rfl, tu, sr, ?_⟩
          refine ⟨_, rfl, _, _, _, _, true, rfl, ClsV.ty _, TyX.base (.bl _), blB_yes, _, rfl, iteF ⟨_, rfl, _, rfl, b, u, r, rfl, tu, sr, ?_, _, rfl, iteN0 rfl ?_⟩⟩
          · cases r <;> rfl
          · exact ⟨_, _, rfl, rfl⟩
        · rintro σ Gf ⟨y6, y7, rfl, rfl⟩
          refine ⟨_, rfl, _, rfl, o1, _, rfl, h1f, fun q20 G20 s20 h20 => ⟨_, rfl, _, rfl, o2, _, rfl, s20 _ _ h2f, fun q21 G21 s21 h21 => ?_⟩⟩
          have h20 := s21 _ _ h20
          rw [cut3] at h20 h21
          refine ⟨q20, q21, _, _, rfl, .inr ⟨SqT.of h20, SqT.of h21, fun D hD => lc_it (walkZT (n := 3) rfl rfl) (fun j G => Same G21 G ∧ G D = some (.lst ((mins s1 t2).take j))) ⟨same_new hD, upd_same⟩ (fun j G _ hh => ⟨SqT.of (hh.1 _ _ h20), SqT.of (hh.1 _ _ h21)⟩) ?_ ?_⟩⟩
          · rintro j x G22 G23 hj ⟨s22, hD22⟩ ⟨Tp, x1, x2, rfl, fT, rfl, ex1, ex2⟩
            have nD : D ≠ Tp := ne_of_none hD22 fT
            rcases (show j = 0 ∨ j = 1 ∨ j = 2 by omega) with rfl | rfl | rfl
            all_goals
              cases ex1
              cases ex2
              refine ⟨Tp, _, rfl, .inl (.inl upd_same), rfl, _, _, rfl, _, _, rfl, rfl, rfl, ?_⟩
              refine ⟨_, rfl, _, rfl, _, _, rfl, _, by rw [upd_ne nD]; exact hD22, szl (Nat.lt_of_le_of_lt (List.length_take_le _ _) (by decide)), Same.mut (s22.trans (same_new fT)) hD, ?_⟩
              rw [upd_same]
              rfl
          · rintro G24 ⟨s24, hD24⟩
            refine ⟨D, _, rfl, .inl ⟨SqL.of hD24, fun l25 hl25 => ?_⟩⟩
            have s25 := same_new hl25 (o := .tup ((mins s1 t2).take 3))
            have sq := s20.trans (s21.trans (s24.trans s25))
            refine ⟨fun σ G => ∃ d27, σ = [some (.ref a), some (.int (0 + (i : Int))), some (.ref b), some (.ref o1), some (.ref o2), some (.ref l9), y6, y7, some (.ref l25), some (.ref d27), y10, y11, y12] ∧ Same Gf G ∧ G d27 = some (.tup (stV (agr s1 t2))), ?_, ?_⟩
            · have fin : ∀ d27 G27, Same (upd G24 l25 (.tup ((mins s1 t2).take 3))) G27 → G27 d27 = some (.tup ((mins s1 t2).take 3 ++ [.bl (s1.md && t2.md)])) → ∃ d, [some (V.ref a), some (.int (0 + (i : Int))), some (.ref b), some (.ref o1), some (.ref o2), some (.ref l9), y6, y7, some (.ref l25), some (.ref d27), y10, y11, y12] = [some (V.ref a), some (.int (0 + (i : Int))), some (.ref b), some (.ref o1), some (.ref o2), some (.ref l9), y6, y7, some (.ref l25), some (.ref d), y10, y11, y12] ∧ Same Gf G27 ∧ G27 d = some (.tup (stV (agr s1 t2))) := fun d27 G27 s27 h27 => ⟨d27, rfl, sq.trans s27, h27⟩
              refine ⟨_, rfl, _, rfl, _, _, _, V.bl s1.md, rfl, rfl, SqT.of (sq _ _ h1f), atI_nat (j := 3) rfl, _, _, rfl, rfl, _, rfl, ?_⟩
              cases em : s1.md with
              | true =>
                refine iteT ⟨_, rfl, _, _, _, V.bl t2.md, rfl, rfl, SqT.of (sq _ _ h2f), atI_nat (j := 3) rfl, _, _, rfl, rfl, sz (by show 1 ≤ 100000; decide), fun w26 hw26 => ?_⟩
                rw [em, Bool.true_and] at fin
                refine ⟨_, _, _, _, rfl, rfl, same_new hw26 _ _ upd_same, upd_same, (by show 4 ≤ 100000; decide), fun d27 G27 s27 h27 => fin d27 G27 ((same_new hw26).trans s27) ?_⟩
                rw [h27]
                cases t2.md <;> rfl
              | false =>
                refine iteF ⟨sz (by show 1 ≤ 100000; decide), fun w26 hw26 => ?_⟩
                rw [em, Bool.false_and] at fin
                exact ⟨_, _, _, _, rfl, rfl, same_new hw26 _ _ upd_same, upd_same, (by show 4 ≤ 100000; decide), fun d27 G27 s27 h27 => fin d27 G27 ((same_new hw26).trans s27) h27⟩
            · rintro σ G27 ⟨d, rfl, s27, hd⟩
              have okd := agr_ok ok1 ok2
              have h1g := s27 _ _ h1f
              have h2g := s27 _ _ h2f
              refine ⟨_, rfl, _, rfl, sz (by show 2 ≤ 100000; decide), fun w1 hw1 => ⟨_, rfl, _, rfl, sz (by show 2 ≤ 100000; decide), fun w2 hw2 => ⟨_, rfl, _, rfl, sz (by show 2 ≤ 100000; decide), fun w3 hw3 => ⟨_, rfl, _, rfl, sz (by show 2 ≤ 100000; decide), fun w4 hw4 => ⟨_, rfl, _, rfl, sz (by show 2 ≤ 100000; decide), fun w5 hw5 => ⟨sz (by show 5 ≤ 100000; decide), fun lw hlw => ?_⟩⟩⟩⟩⟩⟩
              have r1 := same_new hw1 (o := .tup [.ref o1, .ref o2])
              have r2 := same_new hw2 (o := .tup [.ref o2, .ref o1])
              have r3 := same_new hw3 (o := .tup [.ref d, .ref o1])
              have r4 := same_new hw4 (o := .tup [.ref o2, .ref d])
              have r5 := same_new hw5 (o := .tup [.ref d, .ref d])
              have r6 := same_new hlw (o := .lst [.ref w1, .ref w2, .ref w3, .ref w4, .ref w5])
              have g1 := (r2.trans (r3.trans (r4.trans (r5.trans r6)))) _ _ (upd_same (H := G27) (a := w1) (o := .tup [.ref o1, .ref o2]))
              have g2 := (r3.trans (r4.trans (r5.trans r6))) _ _ (upd_same (a := w2) (o := .tup [.ref o2, .ref o1]))
              have g3 := (r4.trans (r5.trans r6)) _ _ (upd_same (a := w3) (o := .tup [.ref d, .ref o1]))
              have g4 := (r5.trans r6) _ _ (upd_same (a := w4) (o := .tup [.ref o2, .ref d]))
              have g5 := r6 _ _ (upd_same (a := w5) (o := .tup [.ref d, .ref d]))
              have g6 := upd_same (H := upd (upd (upd (upd (upd G27 w1 (.tup [.ref o1, .ref o2])) w2 (.tup [.ref o2, .ref o1])) w3 (.tup [.ref d, .ref o1])) w4 (.tup [.ref o2, .ref d])) w5 (.tup [.ref d, .ref d])) (a := lw) (o := .lst [.ref w1, .ref w2, .ref w3, .ref w4, .ref w5])
              have rr := r1.trans (r2.trans (r3.trans (r4.trans (r5.trans r6))))
              generalize upd (upd (upd (upd (upd (upd G27 w1 (.tup [.ref o1, .ref o2])) w2 (.tup [.ref o2, .ref o1])) w3 (.tup [.ref d, .ref o1])) w4 (.tup [.ref o2, .ref d])) w5 (.tup [.ref d, .ref d])) lw (.lst [.ref w1, .ref w2, .ref w3, .ref w4, .ref w5]) = G33 at g1 g2 g3 g4 g5 g6 rr ⊢
              have ap : ∀ u ∈ [V.ref w1, .ref w2, .ref w3, .ref w4, .ref w5], Prd G33 (agr s1 t2) u :=
                all_cons ⟨w1, o1, o2, s1, t2, rfl, g1, rr _ _ h1g, rr _ _ h2g, rfl⟩ (all_cons ⟨w2, o2, o1, t2, s1, rfl, g2, rr _ _ h2g, rr _ _ h1g, agr_comm _ _⟩ (all_cons ⟨w3, d, o1, _, s1, rfl, g3, rr _ _ hd, rr _ _ h1g, agr_left _ _⟩ (all_cons ⟨w4, o2, d, t2, _, rfl, g4, rr _ _ h2g, rr _ _ hd, agr_r _ _⟩ (all_cons ⟨w5, d, d, _, _, rfl, g5, rr _ _ hd, rr _ _ hd, agr_self _⟩ all_nil))))
              refine ⟨lw, rfl, ⟨_, SqL.of g6⟩, for_list (K := K) (a := lw) (xs := [V.ref w1, .ref w2, .ref w3, .ref w4, .ref w5]) (fun _ σ G => ∃ y10, σ = [some (.ref a), some (.int (0 + (i : Int))), some (.ref b), some (.ref o1), some (.ref o2), some (.ref l9), y6, y7, some (.ref l25), some (.ref d), y10, y11, y12] ∧ Same G33 G) ⟨y10, rfl, Same.refl _⟩ (fun i σ G _ ⟨_, _, s⟩ => SqL.of (s _ _ g6)) ?_ ?_⟩
              · rintro j u σ G34 ej ⟨y10, rfl, s34⟩
                obtain ⟨tp, x, y, sx, sy, rfl, ht, hx, hy, eg⟩ := (ap u (List.mem_of_getElem? ej)).same s34
                refine ⟨_, rfl, _, _, _, V.ref x, rfl, rfl, SqT.of ht, atI_nat (j := 0) rfl, _, rfl, _, _, _, V.ref y, rfl, rfl, SqT.of ht, atI_nat (j := 1) rfl, x, y, sx, sy, rfl, hx, hy, fun l35 G35 s35 _ h35 => ?_⟩
                rw [eg] at h35
                refine ⟨_, rfl, .ref l35, .ref d, _, rfl, dp_st h35, dp_st (s35 _ _ (s34 _ _ (rr _ _ hd))), stDD_ok _ okd, _, rfl, iteF ?_⟩
                refine ⟨_, rfl, _, _, _, V.ref x, rfl, rfl, SqT.of (s35 _ _ ht), atI_nat (j := 0) rfl, _, rfl, _, _, _, V.ref y, rfl, rfl, SqT.of (s35 _ _ ht), atI_nat (j := 1) rfl, x, y, sx, sy, rfl, s35 _ _ hx, s35 _ _ hy, fun l36 G36 s36 _ h36 => ?_⟩
                rw [eg] at h36
                refine ⟨b, .ref l36, true, rfl, .tup h36 (by show 4 ≤ 1000; decide) (st_it _), .inl ⟨l36, _, rfl, h36, (setL_st okd).symm⟩, _, _, rfl, rfl, _, rfl, iteF ?_⟩
                exact ⟨_, rfl, s34.trans (s35.trans s36)⟩
              · rintro σ G34 ⟨y10, rfl, s34⟩
                have h1h := s34 _ _ (rr _ _ h1g)
                refine ⟨_, rfl, _, rfl, o1, o1, s1, s1, rfl, h1h, h1h, fun l35 G35 s35 _ h35 => ?_⟩
                rw [agr_self] at h35
                refine ⟨_, rfl, .ref l35, .ref o1, _, rfl, dp_st h35, dp_st (s35 _ _ h1h), stDD_ok _ ok1, _, rfl, iteF ?_⟩
                exact ⟨_, _, _, _, _, _, _, _, _, _, _, _, rfl, (e2.trans (zf.back s0 hb)).trans (s27.trans (rr.trans (s34.trans s35)))⟩
    · rintro σ H2 ⟨y1, y2, y3, y4, y5, y6, y7, y8, y9, y10, y11, y12, rfl, e2⟩
      exact q _
end
--SPLIT
theorem all_mk {l : PySem.W.OpenLaw} {w : World} {K : PySem.W.Frag} {h : Heap} {mg : Str → Option Value} {fa : Addr} (X : K.In h) (G : h.Ns mainGlobals mg) (hfa : mg "law" = some (.ref fa))
    {f0 f1 f2 f3 f4 f5 f6 f7 f8 f9 f10 f11 f12 : Addr}
    {od0 an0 od1 an1 od2 an2 od3 an3 od4 an4 od5 an5 od6 an6 od7 an7 od8 an8 od9 an9 od10 an10 od11 an11 od12 an12 : Option Addr}
    {sl0 sl1 sl2 sl3 sl4 sl5 sl6 sl7 sl8 sl9 sl10 sl11 sl12 : Array (Option Value)}
    {oc0 kV0 dc0 pm0 ct0 cd0 oc1 kV1 dc1 pm1 ct1 cd1 oc2 kV2 dc2 pm2 ct2 cd2 oc3 kV3 dc3 pm3 ct3 cd3 oc4 kV4 dc4 pm4 ct4 cd4 oc5 kV5 dc5 pm5 ct5 cd5 oc6 kV6 dc6 pm6 ct6 cd6 oc7 kV7 dc7 pm7 ct7 cd7 oc8 kV8 dc8 pm8 ct8 cd8 oc9 kV9 dc9 pm9 ct9 cd9 oc10 kV10 dc10 pm10 ct10 cd10 oc11 kV11 dc11 pm11 ct11 cd11 oc12 kV12 dc12 pm12 ct12 cd12 : Value}
    {t_EVERIES : Addr}
    {t_LEAST_BREADTH : Tok}
    {t_MOST_BREADTH : Tok}
    {t_MOST_SPEED : Tok}
    {t_PARTS : Tok}
    (a0 : PySem.W.nsIn K mainGlobals "is_whole" = some (some (.ref f0))) (l0 : K.lookup f0 = some ⟨oc0, od0, .func (PySem.W.fnOf "is_whole" "is_whole" (defArgs s_is_whole) (defBody s_is_whole) (defScope s_is_whole) .none kV0 dc0 pm0 an0 cd0 ct0), sl0⟩) (c0 : PySem.W.codeIn K cd0 "is_whole" = true) (k0 : PySem.W.keepIn K (.ref f0) = true)
    (a1 : PySem.W.nsIn K mainGlobals "is_setting" = some (some (.ref f1))) (l1 : K.lookup f1 = some ⟨oc1, od1, .func (PySem.W.fnOf "is_setting" "is_setting" (defArgs s_is_setting) (defBody s_is_setting) (defScope s_is_setting) .none kV1 dc1 pm1 an1 cd1 ct1), sl1⟩) (c1 : PySem.W.codeIn K cd1 "is_setting" = true) (k1 : PySem.W.keepIn K (.ref f1) = true)
    (a2 : PySem.W.nsIn K mainGlobals "agreed" = some (some (.ref f2))) (l2 : K.lookup f2 = some ⟨oc2, od2, .func (PySem.W.fnOf "agreed" "agreed" (defArgs s_agreed) (defBody s_agreed) (defScope s_agreed) .none kV2 dc2 pm2 an2 cd2 ct2), sl2⟩) (c2 : PySem.W.codeIn K cd2 "agreed" = true) (k2 : PySem.W.keepIn K (.ref f2) = true)
    (a3 : PySem.W.nsIn K mainGlobals "_law_bag" = some (some (.ref f3))) (l3 : K.lookup f3 = some ⟨oc3, od3, .func (PySem.W.fnOf "_law_bag" "_law_bag" (defArgs s_bag) (defBody s_bag) (defScope s_bag) .none kV3 dc3 pm3 an3 cd3 ct3), sl3⟩) (c3 : PySem.W.codeIn K cd3 "_law_bag" = true) (k3 : PySem.W.keepIn K (.ref f3) = true)
    (a4 : PySem.W.nsIn K mainGlobals "_law_take" = some (some (.ref f4))) (l4 : K.lookup f4 = some ⟨oc4, od4, .func (PySem.W.fnOf "_law_take" "_law_take" (defArgs s_take) (defBody s_take) (defScope s_take) .none kV4 dc4 pm4 an4 cd4 ct4), sl4⟩) (c4 : PySem.W.codeIn K cd4 "_law_take" = true) (k4 : PySem.W.keepIn K (.ref f4) = true)
    (a5 : PySem.W.nsIn K mainGlobals "_law_near" = some (some (.ref f5))) (l5 : K.lookup f5 = some ⟨oc5, od5, .func (PySem.W.fnOf "_law_near" "_law_near" (defArgs s_near) (defBody s_near) (defScope s_near) .none kV5 dc5 pm5 an5 cd5 ct5), sl5⟩) (c5 : PySem.W.codeIn K cd5 "_law_near" = true) (k5 : PySem.W.keepIn K (.ref f5) = true)
    (a6 : PySem.W.nsIn K mainGlobals "_law_bent" = some (some (.ref f6))) (l6 : K.lookup f6 = some ⟨oc6, od6, .func (PySem.W.fnOf "_law_bent" "_law_bent" (defArgs s_bent) (defBody s_bent) (defScope s_bent) .none kV6 dc6 pm6 an6 cd6 ct6), sl6⟩) (c6 : PySem.W.codeIn K cd6 "_law_bent" = true) (k6 : PySem.W.keepIn K (.ref f6) = true)
    (a7 : PySem.W.nsIn K mainGlobals "_law_setting" = some (some (.ref f7))) (l7 : K.lookup f7 = some ⟨oc7, od7, .func (PySem.W.fnOf "_law_setting" "_law_setting" (defArgs s_setting) (defBody s_setting) (defScope s_setting) .none kV7 dc7 pm7 an7 cd7 ct7), sl7⟩) (c7 : PySem.W.codeIn K cd7 "_law_setting" = true) (k7 : PySem.W.keepIn K (.ref f7) = true)
    (a8 : PySem.W.nsIn K mainGlobals "_law_from_to" = some (some (.ref f8))) (l8 : K.lookup f8 = some ⟨oc8, od8, .func (PySem.W.fnOf "_law_from_to" "_law_from_to" (defArgs s_from_to) (defBody s_from_to) (defScope s_from_to) .none kV8 dc8 pm8 an8 cd8 ct8), sl8⟩) (c8 : PySem.W.codeIn K cd8 "_law_from_to" = true) (k8 : PySem.W.keepIn K (.ref f8) = true)
    (a9 : PySem.W.nsIn K mainGlobals "_law_is_setting" = some (some (.ref f9))) (l9 : K.lookup f9 = some ⟨oc9, od9, .func (PySem.W.fnOf "_law_is_setting" "_law_is_setting" (defArgs s_is_setting_l) (defBody s_is_setting_l) (defScope s_is_setting_l) .none kV9 dc9 pm9 an9 cd9 ct9), sl9⟩) (c9 : PySem.W.codeIn K cd9 "_law_is_setting" = true) (k9 : PySem.W.keepIn K (.ref f9) = true)
    (a10 : PySem.W.nsIn K mainGlobals "_law_like" = some (some (.ref f10))) (l10 : K.lookup f10 = some ⟨oc10, od10, .func (PySem.W.fnOf "_law_like" "_law_like" (defArgs s_like) (defBody s_like) (defScope s_like) .none kV10 dc10 pm10 an10 cd10 ct10), sl10⟩) (c10 : PySem.W.codeIn K cd10 "_law_like" = true) (k10 : PySem.W.keepIn K (.ref f10) = true)
    (a11 : PySem.W.nsIn K mainGlobals "_law_lesser" = some (some (.ref f11))) (l11 : K.lookup f11 = some ⟨oc11, od11, .func (PySem.W.fnOf "_law_lesser" "_law_lesser" (defArgs s_lesser) (defBody s_lesser) (defScope s_lesser) .none kV11 dc11 pm11 an11 cd11 ct11), sl11⟩) (c11 : PySem.W.codeIn K cd11 "_law_lesser" = true) (k11 : PySem.W.keepIn K (.ref f11) = true)
    (a12 : PySem.W.nsIn K mainGlobals "law" = some (some (.ref f12))) (l12 : K.lookup f12 = some ⟨oc12, od12, .func (PySem.W.fnOf "law" "law" (defArgs s_law) (defBody s_law) (defScope s_law) .none kV12 dc12 pm12 an12 cd12 ct12), sl12⟩) (c12 : PySem.W.codeIn K cd12 "law" = true) (k12 : PySem.W.keepIn K (.ref f12) = true)
    (z_abs : PySem.W.nsIn K mainGlobals "abs" = some none)
    (z_bool : PySem.W.nsIn K mainGlobals "bool" = some none)
    (z_int : PySem.W.nsIn K mainGlobals "int" = some none)
    (z_isinstance : PySem.W.nsIn K mainGlobals "isinstance" = some none)
    (z_len : PySem.W.nsIn K mainGlobals "len" = some none)
    (z_list : PySem.W.nsIn K mainGlobals "list" = some none)
    (z_max : PySem.W.nsIn K mainGlobals "max" = some none)
    (z_min : PySem.W.nsIn K mainGlobals "min" = some none)
    (z_range : PySem.W.nsIn K mainGlobals "range" = some none)
    (z_repr : PySem.W.nsIn K mainGlobals "repr" = some none)
    (z_str : PySem.W.nsIn K mainGlobals "str" = some none)
    (z_tuple : PySem.W.nsIn K mainGlobals "tuple" = some none)
    (z_zip : PySem.W.nsIn K mainGlobals "zip" = some none)
    (m_EVERIES : PySem.W.nsIn K mainGlobals "EVERIES" = some (some (.ref t_EVERIES)))
    (m_LEAST_BREADTH : PySem.W.nsIn K mainGlobals "LEAST_BREADTH" = some (some (.int (8) t_LEAST_BREADTH)))
    (m_MOST_BREADTH : PySem.W.nsIn K mainGlobals "MOST_BREADTH" = some (some (.int (64) t_MOST_BREADTH)))
    (m_MOST_SPEED : PySem.W.nsIn K mainGlobals "MOST_SPEED" = some (some (.int (4) t_MOST_SPEED)))
    (m_PARTS : PySem.W.nsIn K mainGlobals "PARTS" = some (some (.int (4) t_PARTS)))
    {us_EVERIES : List Value} {un_EVERIES : Nat} {ul_EVERIES : Array (Option Value)}
    (dt_EVERIES : K.lookup t_EVERIES = some ⟨.type "tuple", none, .seq us_EVERIES.toArray un_EVERIES, ul_EVERIES⟩) (dv_EVERIES : Vals [.int 1, .int 2, .int 4] us_EVERIES)
    : FpG.LawG l w K CX0 5 63 "_law_script" mg fa h := by
  have e := hfa.symm.trans (PySem.W.mg_of X G a12)
  cases e
  have F0 := fun_mk (st := s_is_whole) l0 c0 k0
  have b0 := F0.binds (ps := P_is_whole) fun _ _ _ _ _ _ us hl => match us, hl with | [_], _ => rfl
  have F1 := fun_mk (st := s_is_setting) l1 c1 k1
  have b1 := F1.binds (ps := P_is_setting) fun _ _ _ _ _ _ us hl => match us, hl with | [_], _ => rfl
  have F2 := fun_mk (st := s_agreed) l2 c2 k2
  have b2 := F2.binds (ps := P_agreed) fun _ _ _ _ _ _ us hl => match us, hl with | [_, _], _ => rfl
  have F3 := fun_mk (st := s_bag) l3 c3 k3
  have b3 := F3.binds (ps := P_bag) fun _ _ _ _ _ _ us hl => match us, hl with | [_, _], _ => rfl
  have F4 := fun_mk (st := s_take) l4 c4 k4
  have b4 := F4.binds (ps := P_take) fun _ _ _ _ _ _ us hl => match us, hl with | [_, _], _ => rfl
  have F5 := fun_mk (st := s_near) l5 c5 k5
  have b5 := F5.binds (ps := P_near) fun _ _ _ _ _ _ us hl => match us, hl with | [_, _], _ => rfl
  have F6 := fun_mk (st := s_bent) l6 c6 k6
  have b6 := F6.binds (ps := P_bent) fun _ _ _ _ _ _ us hl => match us, hl with | [_, _], _ => rfl
  have F7 := fun_mk (st := s_setting) l7 c7 k7
  have b7 := F7.binds (ps := P_setting) fun _ _ _ _ _ _ us hl => match us, hl with | [_], _ => rfl
  have F8 := fun_mk (st := s_from_to) l8 c8 k8
  have b8 := F8.binds (ps := P_from_to) fun _ _ _ _ _ _ us hl => match us, hl with | [_, _, _], _ => rfl
  have F9 := fun_mk (st := s_is_setting_l) l9 c9 k9
  have b9 := F9.binds (ps := P_is_setting_l) fun _ _ _ _ _ _ us hl => match us, hl with | [_], _ => rfl
  have F10 := fun_mk (st := s_like) l10 c10 k10
  have b10 := F10.binds (ps := P_like) fun _ _ _ _ _ _ us hl => match us, hl with | [_, _], _ => rfl
  have F11 := fun_mk (st := s_lesser) l11 c11 k11
  have b11 := F11.binds (ps := P_lesser) fun _ _ _ _ _ _ us hl => match us, hl with | [_, _], _ => rfl
  have F12 := fun_mk (st := s_law) l12 c12 k12
  exact ⟨_, [], spLaw K, ⟨(fun _ z => nomatch z), (fun _ z => nomatch z), fun _ z => nomatch z⟩, fun s v => .of_eq rfl, (fun H a ns hl _ hS => ⟨a, ns, rfl, hS, hl, fun _ => rfl⟩), fun base _ _ _ => ok_law (A := ⟨f0, _, f1, _, f2, _, f3, _, f4, _, f5, _, f6, _, f7, _, f8, _, f9, _, f10, _, f11, _, fa, _, t_EVERIES, t_LEAST_BREADTH, t_MOST_BREADTH, t_MOST_SPEED, t_PARTS⟩) ⟨F0, b0, PySem.W.mg_of X G a0, F1, b1, PySem.W.mg_of X G a1, F2, b2, PySem.W.mg_of X G a2, F3, b3, PySem.W.mg_of X G a3, F4, b4, PySem.W.mg_of X G a4, F5, b5, PySem.W.mg_of X G a5, F6, b6, PySem.W.mg_of X G a6, F7, b7, PySem.W.mg_of X G a7, F8, b8, PySem.W.mg_of X G a8, F9, b9, PySem.W.mg_of X G a9, F10, b10, PySem.W.mg_of X G a10, F11, b11, PySem.W.mg_of X G a11, F12, PySem.W.mg_of X G a12, fun H => .inr ⟨_, us_EVERIES.toArray, _, dt_EVERIES, rfl, rfl, by rw [List.size_toArray, ← dv_EVERIES.length]; exact sz (by show 3 ≤ 100000; decide), by simpa using dv_EVERIES⟩, ⟨_, dt_EVERIES, rfl, rfl⟩, PySem.W.mg_none_of X G z_abs, PySem.W.mg_none_of X G z_bool, PySem.W.mg_none_of X G z_int, PySem.W.mg_none_of X G z_isinstance, PySem.W.mg_none_of X G z_len, PySem.W.mg_none_of X G z_list, PySem.W.mg_none_of X G z_max, PySem.W.mg_none_of X G z_min, PySem.W.mg_none_of X G z_range, PySem.W.mg_none_of X G z_repr, PySem.W.mg_none_of X G z_str, PySem.W.mg_none_of X G z_tuple, PySem.W.mg_none_of X G z_zip, PySem.W.mg_of X G m_EVERIES, PySem.W.mg_of X G m_LEAST_BREADTH, PySem.W.mg_of X G m_MOST_BREADTH, PySem.W.mg_of X G m_MOST_SPEED, PySem.W.mg_of X G m_PARTS⟩⟩
end K37
open PySem PySem.W PyProof.Rows
set_option maxHeartbeats 0 in
theorem PySem.Challenge.cw_farpage_k37_settings_holds : PySem.Challenge.rw_farpage_k37_settings.Holds := by
  w_on; o_law; k_head; (case hw => w_witness2)
  k_fill
  refine FpG.walk_G (l := PySem.Challenge.rw_farpage_k37_settings) (n := 63) (k := 5) (x := "_law_script") (CX := fun _ => L2.CX0) rfl (by decide) rfl ⟨rfl, by decide, by decide⟩ (fun w h Y => PySem.W.kIn_of Y) ?F (fun _ _ _ _ _ h => h)
  case F =>
    intro w mg fa h Y KX G hmg
    refine' K37.all_mk KX G hmg ?a0 ?l0 ?c0 ?k0 ?a1 ?l1 ?c1 ?k1 ?a2 ?l2 ?c2 ?k2 ?a3 ?l3 ?c3 ?k3 ?a4 ?l4 ?c4 ?k4 ?a5 ?l5 ?c5 ?k5 ?a6 ?l6 ?c6 ?k6 ?a7 ?l7 ?c7 ?k7 ?a8 ?l8 ?c8 ?k8 ?a9 ?l9 ?c9 ?k9 ?a10 ?l10 ?c10 ?k10 ?a11 ?l11 ?c11 ?k11 ?a12 ?l12 ?c12 ?k12 ?z_abs ?z_bool ?z_int ?z_isinstance ?z_len ?z_list ?z_max ?z_min ?z_range ?z_repr ?z_str ?z_tuple ?z_zip ?m_EVERIES ?m_LEAST_BREADTH ?m_MOST_BREADTH ?m_MOST_SPEED ?m_PARTS ?dt_EVERIES ?dv_EVERIES
    (case a0 => k_is)
    (case l0 => k_is)
    (case c0 => k_is)
    (case k0 => k_is)
    (case a1 => k_is)
    (case l1 => k_is)
    (case c1 => k_is)
    (case k1 => k_is)
    (case a2 => k_is)
    (case l2 => k_is)
    (case c2 => k_is)
    (case k2 => k_is)
    (case a3 => k_is)
    (case l3 => k_is)
    (case c3 => k_is)
    (case k3 => k_is)
    (case a4 => k_is)
    (case l4 => k_is)
    (case c4 => k_is)
    (case k4 => k_is)
    (case a5 => k_is)
    (case l5 => k_is)
    (case c5 => k_is)
    (case k5 => k_is)
    (case a6 => k_is)
    (case l6 => k_is)
    (case c6 => k_is)
    (case k6 => k_is)
    (case a7 => k_is)
    (case l7 => k_is)
    (case c7 => k_is)
    (case k7 => k_is)
    (case a8 => k_is)
    (case l8 => k_is)
    (case c8 => k_is)
    (case k8 => k_is)
    (case a9 => k_is)
    (case l9 => k_is)
    (case c9 => k_is)
    (case k9 => k_is)
    (case a10 => k_is)
    (case l10 => k_is)
    (case c10 => k_is)
    (case k10 => k_is)
    (case a11 => k_is)
    (case l11 => k_is)
    (case c11 => k_is)
    (case k11 => k_is)
    (case a12 => k_is)
    (case l12 => k_is)
    (case c12 => k_is)
    (case k12 => k_is)
    (case z_abs => k_is)
    (case z_bool => k_is)
    (case z_int => k_is)
    (case z_isinstance => k_is)
    (case z_len => k_is)
    (case z_list => k_is)
    (case z_max => k_is)
    (case z_min => k_is)
    (case z_range => k_is)
    (case z_repr => k_is)
    (case z_str => k_is)
    (case z_tuple => k_is)
    (case z_zip => k_is)
    (case m_EVERIES => k_is)
    (case m_LEAST_BREADTH => k_is)
    (case m_MOST_BREADTH => k_is)
    (case m_MOST_SPEED => k_is)
    (case m_PARTS => k_is)
    (case dt_EVERIES => k_is)
    (case dv_EVERIES => repeat (first | exact .nil | refine .cons ⟨_, rfl⟩ ?_ | refine .cons rfl ?_))
