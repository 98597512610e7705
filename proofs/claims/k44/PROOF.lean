import PyProof.Rows.All
import Wide.All
import OpenK.AllK
import Wide.FinOn
import PyProof.EqAt
import PyProof.EqKinds
import PyProof.TupleCall
import Open.SpecLaws
import KE.OsGo
import KE.KExcIs
import HandS.ForSpec
import HandS.ForMost
import HandS.ExcIs
import HandS.RaiseMore
import HandS.Codes
import HandS.Walk
import HandS.Style
import HandS.TupAny
import HandS.TupLe
import HandS.IsInst
import HandS.Text
import HandS.Replace
import HandS.SetFor
import HandS.Strs
import HandS.SortInts
import PyProof.Rows.SortShellAny
import HandS.Iter
import HandS.ClsMeth
import HandS.Property
import HandS.DictComp
import HandS.Defaults
import PySem.Challenge.RW_windowpicks_k44_edits_known_by_hand
set_option Elab.async false
set_option linter.all false
set_option maxRecDepth 100000
set_option maxHeartbeats 1200000
namespace WP
open L2 PySem PySem.Spec PyProof.Rows
/-! ### enumerate(text): signs with their places -/
def Ies (txt : Str) : It :=
  ⟨fun i _ => i < txt.cps.size, fun i G v H' => ∃ T c, v = .ref T ∧ G T = none ∧ txt.cps[i]? = some c ∧ H' = upd G T (.tup [.int (i : Nat), .str ⟨#[c]⟩]), fun i _ => i = txt.cps.size⟩
theorem turn_enumS {P : Program} {w : World} {K : PySem.W.Frag} {elts : List Expr} {kk : Nat} {tpos : Pos} (e it : Addr) (txt : Str) (t : Tok) :
    Turn P w K (.Tuple elts kk tpos) (Ies txt) [e, it] e (fun i h => (∃ prev, IsEnum h e it ((i : Nat) : Int) prev) ∧ h.IsStrIter it "str_ascii_iterator" txt t i ∧ e ≠ it) where
  mem := by simp
  obj := fun i h now bb hb => by
    obtain ⟨⟨prev, hE⟩, ⟨ob, hOut, cal, dat⟩, _⟩ := now
    have eb : bb = e ∨ bb = it := by simpa using hb
    rcases eb with ez | ez
    · rw [ez]; exact ⟨_, hE, fun v qq => nomatch qq⟩
    · rw [ez]; exact ⟨ob, hOut, fun v qq => by rw [dat] at qq; cases qq⟩
  keep := fun i h h1 now ke => by
    obtain ⟨⟨prev, hE⟩, ⟨ob, hOut, rc⟩, nei⟩ := now
    exact ⟨⟨prev, ke e (by simp) _ hE⟩, ⟨ob, ke it (by simp) _ hOut, rc⟩, nei⟩
  item := by
    intro X eP eW eK cal i pn sh ρ G E J0 fr now here
    subst eP eW eK
    obtain ⟨⟨prev, hE⟩, hI, nei⟩ := now
    have ltE : e < sh.heap.objs.size := Heap.lt_size hE
    have ltI : it < sh.heap.objs.size := by obtain ⟨_, qq, _⟩ := hI; exact Heap.lt_size qq
    have D := Draws.strAscii (prog := X.prog) (w := X.w) (A := X.A.in1) (J0.ok.hd cal) it txt t
    refine wpAny_pyNext_enum_itemD D hE hI here nei (by simpa using nei) fun uu0 h1 tk hU hOut hit' tAt hz kp => ?_
    obtain ⟨c, tk0, hcx, rfl⟩ := hU
    refine ⟨_, rfl, wpAny_letOwnedTupleGo_enum (s := { sh with heap := h1, toks := tk + 1 }) hOut fun h2 hE2 but => ?_⟩
    have tAt2 : h2.get? sh.heap.objs.size = some { cls := .type "tuple", data := .seq #[.int i tk, .str ⟨#[c]⟩ tk0] } := (but.2 _ (Nat.ne_of_gt ltE)).trans tAt
    have newO : ObjOk X.prog X.w (upd G sh.heap.objs.size (.tup [.int (i : Nat), .str ⟨#[c]⟩])) h2 sh.heap.objs.size (.tup [.int (i : Nat), .str ⟨#[c]⟩]) :=
      ⟨by show 2 ≤ sizeLine; decide, [.int i tk, .str ⟨#[c]⟩ tk0], .cons ⟨_, rfl⟩ (.cons ⟨_, rfl⟩ .nil), ⟨_, tAt2, rfl, _, rfl⟩⟩
    have J1 : Inv X pn ρ (upd G sh.heap.objs.size (.tup [.int (i : Nat), .str ⟨#[c]⟩])) { sh with heap := h2, toks := tk + 1 } :=
      J0.turnedNew (ch := [e, it]) (fun bb oo hb qq => (but.2 bb (fun ez => hb (by simp [ez]))).trans (kp bb oo (fun ez => hb (by simp [ez])) (fun ez => hb (by simp [ez])) qq)) fr (Nat.le_refl _) newO
    refine ⟨.ref sh.heap.objs.size, _, J1, rfl, ⟨_, c, rfl, J0.hok.fresh (Nat.le_refl _), hcx, rfl⟩, ⟨⟨.str ⟨#[c]⟩ tk0, ?_⟩, ?_, nei⟩, fun bb hb => ?_⟩
    · have ei : ((i + 1 : Nat) : Int) = (i : Int) + 1 := by omega
      rw [ei]; exact hE2
    · obtain ⟨o2, ho2, r2⟩ := hit'
      exact ⟨o2, (but.2 it (Ne.symm nei)).trans ho2, r2⟩
    · have lb : bb < sh.heap.objs.size := by
        have eb : bb = e ∨ bb = it := by simpa using hb
        rcases eb with ez | ez
        · rw [ez]; exact ltE
        · rw [ez]; exact ltI
      rw [upd_ne (Nat.ne_of_lt lb)]
      exact (fr bb hb).1
  done := by
    intro X eP eW eK cal i pn sh ρ G E J0 fr now here
    subst eP eW eK
    obtain ⟨⟨prev, hE⟩, hI, nei⟩ := now
    obtain ⟨g0, g1, g2, g3, g4, g5⟩ := fr it (by simp)
    have D := Draws.strAscii (prog := X.prog) (w := X.w) (A := X.A.in1) (J0.ok.hd cal) it txt t
    have here : i = txt.cps.size := here
    rw [here] at hI
    exact wpAny_pyNext_enum_endD D hE hI fun h1 eb => ⟨rfl, J0.turned (t' := sh.toks) (fun bb ob hb qq => eb bb ob hb qq) g0 g1 g3 g4 g5⟩
  self := fun A i sh Q E now h => let ⟨⟨_, hE⟩, _⟩ := now; wpAny_pyIter_enum hE h
def iEnumS (ta : TA) : TI := fun ρ G R => ta ρ G fun vs G1 => ∃ txt : Str, vs = [.str txt] ∧ txt.cps.all (· < 128) = true ∧ R (Ies txt) G1
theorem pi_enumS {X : Cx} {e : Expr} {ta : TA} {p pos tpos : Pos} {elts : List Expr} {kk : Nat} (here : Gl X "enumerate") (hm : X.mg "enumerate" = none) (ha : PA X [e] ta) (hs : starEach [e] X.env = [(false, eval e X.env)] := by rfl) :
    PI X (.Tuple elts kk tpos) (.Call (.Name "enumerate" p) [e] [] pos) (iEnumS ta) := by
  refine ⟨fun pn sh ρ G R J0 h => ?_⟩
  refine Call_ (ld_blt J0 here hm boot_enumerate (PyProof.Rows.callWith_type1 (thn (ha.run pos pn sh ρ G _ J0 h) fun uu s1 ⟨vs, G1, J1, ra, qa⟩ => ?_) hs rfl))
  obtain ⟨txt, et, asc, qq⟩ := qa
  subst et
  cases ra with
  | cons rc rb =>
    cases rb
    obtain ⟨t, rfl⟩ := rc
    have ht : strIterType txt = "str_ascii_iterator" := by
      unfold strIterType
      rw [asc]
      rfl
    refine call_enumerate_str fun h1 hE hI hz kp => wpAny_pyIter_enum hE ?_
    rw [ht] at hI
    have J2 : Inv X pn ρ G1 { s1 with heap := h1 } := J1.kept (t' := s1.toks) kp
    refine ⟨s1.heap.objs.size + 1, [s1.heap.objs.size + 1, s1.heap.objs.size], _, _, G1, rfl, J2, turn_enumS (s1.heap.objs.size + 1) s1.heap.objs.size txt t, ⟨⟨.none, hE⟩, hI, Nat.succ_ne_self _⟩, fun bb hb => ?_, qq⟩
    have eb : bb = s1.heap.objs.size + 1 ∨ bb = s1.heap.objs.size := by simpa using hb
    have above : s1.heap.objs.size ≤ bb := by
      rcases eb with ez | ez
      · rw [ez]; exact Nat.le_add_right _ _
      · rw [ez]; exact Nat.le_refl _
    exact J1.fpOk above (J1.hok.fresh above)
theorem walk_enumS {txt : Str} : Walk (Ies txt) txt.cps.size (fun _ => True) (fun i G v H' => ∃ T c, v = .ref T ∧ G T = none ∧ txt.cps[i]? = some c ∧ H' = upd G T (.tup [.int (i : Nat), .str ⟨#[c]⟩])) :=
  ⟨fun _ _ hi _ => hi, fun _ _ => rfl, fun _ _ _ _ _ _ y => y⟩
end WP
namespace WP
open PySem L2
/-! ### the text -/
/-! ### heaps -/
/-- only the object at b may have changed -/
def But (b : Addr) (H H' : Hp) : Prop := ∀ c o, H c = some o → c ≠ b → H' c = some o
theorem But.refl (b : Addr) (H : Hp) : But b H H := fun _ _ h _ => h
theorem But.trans {b : Addr} {H H1 H2 : Hp} (x : But b H H1) (y : But b H1 H2) : But b H H2 := fun c o h n => y c o (x c o h n) n
theorem But.same {b : Addr} {H H1 H2 : Hp} (x : But b H H1) (y : Same H1 H2) : But b H H2 := fun c o h n => y c o (x c o h n)
theorem Same.but {b : Addr} {H H1 H2 : Hp} (x : Same H H1) (y : But b H1 H2) : But b H H2 := fun c o h n => y c o (x c o h) n
theorem but_upd {b : Addr} {H : Hp} {o : HO} : But b H (upd H b o) := fun c u h n => by rw [upd_ne n]; exact h
theorem But.seq {K : PySem.W.Frag} {b a : Addr} {H H' : Hp} {xs : List V} (e : But b H H') (n : a ≠ b) (h : SqL K H a xs) : SqL K H' a xs := by
  rcases h with (h1 | ⟨o, h2⟩) | h3
  · exact .inl (.inl (e _ _ h1 n))
  · exact .inl (.inr ⟨o, e _ _ h2 n⟩)
  · exact .inr h3
theorem same_upd {H : Hp} {p : Addr} {o : HO} (h : H p = none) : Same H (upd H p o) := fun b x e => by
  rw [upd_ne (ne_of_none e h)]
  exact e
theorem fdiv_nn {i m : Int} (h : 0 ≤ i) (hm : 0 < m) : 0 ≤ i.fdiv m := by
  rw [Int.fdiv_eq_ediv_of_nonneg _ (Int.le_of_lt hm)]
  exact Int.ediv_nonneg h (Int.le_of_lt hm)
/-! ### the box of draws -/
structure Box (H : Hp) (b : Addr) : Prop where
  ex : ∃ i j k : Int, H b = some (.lst [.int i, .int j, .int k]) ∧ 0 ≤ i
def spTake : Sp := fun vs H Q _ => ∃ (b : Addr) (m : Int), vs = [.ref b, .int m] ∧ Box H b ∧ 0 < m ∧ m < 1000000 ∧
  ∀ H' r, 0 ≤ r → r < m → But b H H' → Box H' b → Q (.int r) H'
end WP
namespace WP
open PySem L2
theorem atI_mk {xs : List V} {z : Int} {j : Nat} {v : V} (e : z = (j : Int)) (h : xs[j]? = some v) : atI xs z = some v := by
  subst e
  exact atI_nat h
theorem int_at {ns : List Int} {j : Nat} (h : j < ns.length) : (ns.map V.int)[j]? = some (.int ns[j]) := by
  rw [List.getElem?_map, List.getElem?_eq_getElem h]
  rfl
theorem ite_nn {b : Bool} {c : Int} (h : 0 ≤ c) : 0 ≤ if b = true then c else 0 := by
  cases b
  · exact Int.le_refl 0
  · exact h
theorem abs_nn (i : Int) : 0 ≤ (if i < 0 then -i else i) := by
  split <;> omega
section
variable {K : PySem.W.Frag} {mg : Str → Option Value} {base : Heap} {w : World} {P : Program}
/-! ### a box is made -/
def spBox (K : PySem.W.Frag) : Sp := fun vs H Q _ => ∃ (a : Addr) (ns : List Int) (k own : Nat), vs = [.ref a, .int k, .int own] ∧ SqL K H a (ns.map V.int) ∧ ns.length ≤ 63 ∧
  ∀ H' p, Same H H' → H p = none → Box H' p → Q (.ref p) H'
end
end WP
namespace WP
open PySem L2
/-! ### comprehensions that fill a list: F i is the list after i turns -/
section
variable {Y : Nat → Hp → V → Hp → Prop} {J : It} {G : Hp → Prop} {n : Nat}
theorem same_put {H1 H : Hp} {D : Addr} {o : HO} (nD : H1 D = none) (h : Same H1 H) : Same H1 (upd H D o) := fun c u e => by
  rw [upd_ne (ne_of_none e nD)]
  exact h c u e
theorem but_put {b : Addr} {H1 H : Hp} {D : Addr} {o : HO} (nD : H1 D = none) (h : But b H1 H) : But b H1 (upd H D o) := fun c u e n => by
  rw [upd_ne (ne_of_none e nD)]
  exact h c u e n
theorem yes_i {A B : Hp → Prop} {σ : St} {H : Hp} (h : A H) : tYes σ H fun b H3 => if b = true then A H3 else B H3 := by
  show (if true = true then A H else B H)
  rw [if_pos rfl]
  exact h
theorem lc_acc (wk : Walk J n G Y) {g : TG} {tt : TT} {te : TE} {vs : List Nat} {σ : St} {H1 : Hp} {D : Addr} {Qd : Hp → Prop} (nD : H1 D = none) (F : Nat → List V) (hF0 : F 0 = []) (hF : ∀ i, i < n → (F i).length < sizeLine)
    (hG : ∀ H, Same H1 H → G H)
    (hs : ∀ i x H H', i < n → Same H1 H → Y i H x H' → (∀ y H4, Same H H4 → F (i + 1) = F i ++ [y] → ∃ acc, H4 D = some (.lst acc) ∧ acc.length < sizeLine ∧ (Same H1 (upd H4 D (.lst (acc ++ [y]))) ∧ (upd H4 D (.lst (acc ++ [y]))) D = some (.lst (F (i + 1))))) →
      (∀ H4, Same H H4 → F (i + 1) = F i → Same H1 H4 ∧ H4 D = some (.lst (F (i + 1)))) →
      g x (wipe σ vs) H' fun σ2 H2 => wipe σ2 vs = wipe σ vs ∧ tt σ2 H2 fun b H3 =>
        if b = true then te σ2 H3 fun y H4 => ∃ acc, H4 D = some (.lst acc) ∧ acc.length < sizeLine ∧ (Same H1 (upd H4 D (.lst (acc ++ [y]))) ∧ (upd H4 D (.lst (acc ++ [y]))) D = some (.lst (F (i + 1)))) else Same H1 H3 ∧ H3 D = some (.lst (F (i + 1))))
    (hd : ∀ H, Same H1 H → H D = some (.lst (F n)) → Qd H) :
    ∃ Wv : Nat → Nat → Hp → Prop, (∃ m, Wv 0 m (upd H1 D (.lst []))) ∧ ∀ i m H, Wv i m H →
      (J.stop i H ∧ Qd H) ∨ (J.go i H ∧ ∃ Nxt : Hp → Prop, (∀ H', Nxt H' → ∃ m', m' < m ∧ Wv (i + 1) m' H') ∧ ∀ x H', J.yld i H x H' → g x (wipe σ vs) H' fun σ2 H2 => wipe σ2 vs = wipe σ vs ∧ tt σ2 H2 fun b H3 =>
        if b = true then te σ2 H3 fun y H4 => ∃ acc, H4 D = some (.lst acc) ∧ acc.length < sizeLine ∧ Nxt (upd H4 D (.lst (acc ++ [y]))) else Nxt H3) := by
  refine lc_it wk (fun i H => Same H1 H ∧ H D = some (.lst (F i))) ⟨same_upd nD, by rw [upd_same, hF0]⟩ (fun i H _ h => hG H h.1) ?_ (fun H h => hd H h.1 h.2)
  rintro i x H H' hi ⟨s1, hD⟩ hy
  exact hs i x H H' hi s1 hy (fun y H4 s4 e => ⟨F i, s4 _ _ hD, hF i hi, same_put nD (s1.trans s4), by rw [upd_same, e]⟩) (fun H4 s4 e => ⟨s1.trans s4, by rw [e]; exact s4 _ _ hD⟩)
theorem lc_accB {b : Addr} (wk : Walk J n G Y) {g : TG} {tt : TT} {te : TE} {vs : List Nat} {σ : St} {H1 : Hp} {D : Addr} {Qd : Hp → Prop} (nD : H1 D = none) (nb : D ≠ b) (F : List V → Prop) (I : Hp → Prop) (hF0 : F []) (hF : ∀ l, F l → l.length < n → l.length < sizeLine)
    (hI0 : I (upd H1 D (.lst []))) (hI : ∀ H o, I H → I (upd H D o))
    (hG : ∀ H, But b H1 H → G H)
    (hs : ∀ i x H H', i < n → But b H1 H → I H → Y i H x H' → (∀ y H4, But b H H4 → I H4 → (∀ l, F l → l.length = i → F (l ++ [y])) → ∃ acc, H4 D = some (.lst acc) ∧ acc.length < sizeLine ∧ (But b H1 (upd H4 D (.lst (acc ++ [y]))) ∧ I (upd H4 D (.lst (acc ++ [y]))) ∧ ∃ l, F l ∧ l.length = i + 1 ∧ (upd H4 D (.lst (acc ++ [y]))) D = some (.lst l))) →
      g x (wipe σ vs) H' fun σ2 H2 => wipe σ2 vs = wipe σ vs ∧ tt σ2 H2 fun c H3 =>
        if c = true then te σ2 H3 fun y H4 => ∃ acc, H4 D = some (.lst acc) ∧ acc.length < sizeLine ∧ (But b H1 (upd H4 D (.lst (acc ++ [y]))) ∧ I (upd H4 D (.lst (acc ++ [y]))) ∧ ∃ l, F l ∧ l.length = i + 1 ∧ (upd H4 D (.lst (acc ++ [y]))) D = some (.lst l)) else (But b H1 H3 ∧ I H3 ∧ ∃ l, F l ∧ l.length = i + 1 ∧ H3 D = some (.lst l)))
    (hd : ∀ H l, But b H1 H → I H → F l → l.length = n → H D = some (.lst l) → Qd H) :
    ∃ Wv : Nat → Nat → Hp → Prop, (∃ m, Wv 0 m (upd H1 D (.lst []))) ∧ ∀ i m H, Wv i m H →
      (J.stop i H ∧ Qd H) ∨ (J.go i H ∧ ∃ Nxt : Hp → Prop, (∀ H', Nxt H' → ∃ m', m' < m ∧ Wv (i + 1) m' H') ∧ ∀ x H', J.yld i H x H' → g x (wipe σ vs) H' fun σ2 H2 => wipe σ2 vs = wipe σ vs ∧ tt σ2 H2 fun c H3 =>
        if c = true then te σ2 H3 fun y H4 => ∃ acc, H4 D = some (.lst acc) ∧ acc.length < sizeLine ∧ Nxt (upd H4 D (.lst (acc ++ [y]))) else Nxt H3) := by
  refine lc_it wk (fun i H => But b H1 H ∧ I H ∧ ∃ l, F l ∧ l.length = i ∧ H D = some (.lst l)) ⟨but_put nD (But.refl b H1), hI0, [], hF0, rfl, upd_same⟩ (fun i H _ h => hG H h.1) ?_ (fun H h => let ⟨h1, h2, l, h3, h4, h5⟩ := h; hd H l h1 h2 h3 h4 h5)
  rintro i x H H' hi ⟨s1, hi1, l, hl, hll, hD⟩ hy
  refine hs i x H H' hi s1 hi1 hy fun y H4 s4 i4 e => ⟨l, s4 _ _ hD nb, hF l hl (by omega), but_put nD (s1.trans s4), hI _ _ i4, l ++ [y], e l hl hll, ?_, upd_same⟩
  rw [List.length_append, hll]
  rfl
end
/-! ### texts of digits -/
def cod (ds : List Nat) : List Nat := ds.map (97 + ·)
abbrev tx (ds : List Nat) : Str := SX.S (cod ds)
abbrev tv (ds : List Nat) : V := .str (tx ds)
theorem cod_len (ds : List Nat) : (cod ds).length = ds.length := List.length_map _
theorem tx_len (ds : List Nat) : (tx ds).length = ds.length := by rw [SX.S_len, cod_len]
theorem cod_inj : ∀ {a b : List Nat}, cod a = cod b → a = b
  | [], [], _ => rfl
  | [], _ :: _, h => by cases h
  | _ :: _, [], h => by cases h
  | x :: a, y :: b, h => by
    have h1 : 97 + x = 97 + y := (List.cons.inj h).1
    have h2 : cod a = cod b := (List.cons.inj h).2
    have e : x = y := by omega
    rw [e, cod_inj h2]
theorem tx_inj {a b : List Nat} (h : tx a = tx b) : a = b := cod_inj (SX.S_inj h)
theorem tv_inj {a b : List Nat} (h : tv a = tv b) : a = b := tx_inj (V.str.inj h)
theorem tx_cat (a b : List Nat) : tx a ++ tx b = tx (a ++ b) := by
  rw [SX.S_cat]
  show SX.S (cod a ++ cod b) = SX.S (cod (a ++ b))
  rw [show cod (a ++ b) = cod a ++ cod b from List.map_append]
/-- all texts of n digits below s, in order -/
def allT (s : Nat) : Nat → List (List Nat)
  | 0 => [[]]
  | n + 1 => (allT s n).flatMap fun t => (List.range s).map fun d => t ++ [d]
theorem flat_len {α β : Type} (f : α → List β) (k : Nat) (h : ∀ x, (f x).length = k) : ∀ l : List α, (l.flatMap f).length = l.length * k
  | [] => by simp
  | x :: l => by
    rw [List.flatMap_cons, List.length_append, h, flat_len f k h l, List.length_cons, Nat.add_mul, Nat.one_mul, Nat.add_comm]
theorem allT_len (s : Nat) : ∀ n, (allT s n).length = s ^ n
  | 0 => rfl
  | n + 1 => by
    show ((allT s n).flatMap _).length = _
    rw [flat_len _ s (fun t => by rw [List.length_map, List.length_range]), allT_len s n, Nat.pow_succ]
/-- a text of n digits below s -/
def Dig (s : Nat) (ds : List Nat) : Prop := ∀ d ∈ ds, d < s
theorem allT_mem (s : Nat) : ∀ (n : Nat) (ds : List Nat), ds ∈ allT s n ↔ ds.length = n ∧ Dig s ds
  | 0, ds => by
    constructor
    · intro h
      have e : ds = [] := List.mem_singleton.mp h
      subst e
      exact ⟨rfl, fun d hd => by cases hd⟩
    · rintro ⟨h, _⟩
      have e : ds = [] := List.eq_nil_of_length_eq_zero h
      subst e
      exact List.mem_singleton.mpr rfl
  | n + 1, ds => by
    constructor
    · intro h
      obtain ⟨t, ht, h2⟩ := List.mem_flatMap.mp h
      obtain ⟨d, hd, e⟩ := List.mem_map.mp h2
      obtain ⟨h3, h4⟩ := (allT_mem s n t).mp ht
      subst e
      refine ⟨by rw [List.length_append, h3]; rfl, fun c hc => ?_⟩
      rcases List.mem_append.mp hc with q | q
      · exact h4 c q
      · rw [List.mem_singleton.mp q]
        exact List.mem_range.mp hd
    · rintro ⟨h, hd⟩
      have hne : ds ≠ [] := fun e => by rw [e] at h; cases h
      have e := List.dropLast_concat_getLast (l := ds) hne
      refine List.mem_flatMap.mpr ⟨ds.dropLast, (allT_mem s n _).mpr ⟨by rw [List.length_dropLast, h]; rfl, fun c hc => hd c (List.dropLast_subset ds hc)⟩, List.mem_map.mpr ⟨ds.getLast hne, List.mem_range.mpr (hd _ (List.getLast_mem hne)), e⟩⟩
/-- the index of a text among all of its length -/
def num (s : Nat) (ds : List Nat) : Nat := ds.foldl (fun a d => a * s + d) 0
theorem num_snoc (s : Nat) (ds : List Nat) (d : Nat) : num s (ds ++ [d]) = num s ds * s + d := by
  unfold num
  rw [List.foldl_append]
  rfl
theorem num_lt {s : Nat} : ∀ (n : Nat) (ds : List Nat), ds.length = n → Dig s ds → num s ds < s ^ n
  | 0, ds, h, _ => by
    have e : ds = [] := List.eq_nil_of_length_eq_zero h
    subst e
    exact Nat.one_pos
  | n + 1, ds, h, hd => by
    have hne : ds ≠ [] := fun e => by rw [e] at h; cases h
    have e := List.dropLast_concat_getLast (l := ds) hne
    have h1 : num s ds.dropLast < s ^ n := num_lt n _ (by rw [List.length_dropLast, h]; rfl) fun c hc => hd c (List.dropLast_subset ds hc)
    have h2 : ds.getLast hne < s := hd _ (List.getLast_mem hne)
    rw [← e, num_snoc, Nat.pow_succ]
    have h3 : (num s ds.dropLast + 1) * s ≤ s ^ n * s := Nat.mul_le_mul_right s h1
    rw [Nat.add_mul (num s ds.dropLast) 1 s, Nat.one_mul] at h3
    omega
/-! ### the alphabet -/
def abc (s : Nat) : Str := SX.S (cod (List.range s))
theorem abc_cut : ∀ s : Nat, s = 2 ∨ s = 3 ∨ s = 4 → cutS ("abcd" : Str) none (some (s : Int)) = abc s := by
  intro s h
  rcases h with rfl | rfl | rfl <;> decide +kernel
theorem abc_at {s i c : Nat} (h : (abc s).cps[i]? = some c) : i < s ∧ c = 97 + i := by
  have h1 : (cod (List.range s))[i]? = some c := by
    have e : (abc s).cps.toList = cod (List.range s) := rfl
    rw [← e, Array.getElem?_toList]
    exact h
  unfold cod at h1
  rw [List.getElem?_map] at h1
  by_cases hi : i < s
  · rw [List.getElem?_range hi] at h1
    exact ⟨hi, (Option.some.inj h1).symm⟩
  · rw [List.getElem?_eq_none (by rw [List.length_range]; omega)] at h1
    cases h1
theorem abc_size (s : Nat) : (abc s).cps.size = s := by
  show (cod (List.range s)).toArray.size = s
  rw [List.size_toArray, cod_len, List.length_range]
end WP
namespace WP
open PySem L2
section
variable {K : PySem.W.Frag} {mg : Str → Option Value} {base : Heap} {w : World} {P : Program}
/-! ### powers -/
def spPower : Sp := fun vs H Q _ => ∃ b n : Nat, vs = [.int b, .int n] ∧ b ≤ 1000 ∧ n ≤ 1000 ∧ Q (.int ((b ^ n : Nat) : Int)) H
/-! ### one of some items -/
def spPick (K : PySem.W.Frag) : Sp := fun vs H Q _ => ∃ (b l : Addr) (xs : List V), vs = [.ref b, .ref l] ∧ Box H b ∧ SqL K H l xs ∧ l ≠ b ∧ 0 < xs.length ∧ xs.length < 1000000 ∧
  ∀ H' (j : Nat) x, xs[j]? = some x → But b H H' → Box H' b → Q x H'
/-! ### all texts -/
def spTexts : Sp := fun vs H Q _ => ∃ s n : Nat, vs = [.int s, .int n] ∧ (s = 2 ∨ s = 3 ∨ s = 4) ∧ n ≤ 100 ∧ s ^ n ≤ 100000 ∧
  ∀ H' p, Same H H' → H p = none → H' p = some (.lst ((allT s n).map tv)) → Q (.ref p) H'
/-- the texts of one turn more, of the first j texts -/
def ext (s : Nat) (l : List (List Nat)) : List (List Nat) := l.flatMap fun t => (List.range s).map fun d => t ++ [d]
theorem ext_snoc (s : Nat) (l : List (List Nat)) (t : List Nat) : ext s (l ++ [t]) = ext s l ++ (List.range s).map fun d => t ++ [d] := by
  unfold ext
  rw [List.flatMap_append]
  simp
theorem ext_len (s : Nat) (l : List (List Nat)) : (ext s l).length = l.length * s := flat_len _ s (fun t => by rw [List.length_map, List.length_range]) l
theorem map_range_succ {α : Type} (f : Nat → α) (i : Nat) : (List.range (i + 1)).map f = (List.range i).map f ++ [f i] := by
  rw [List.range_succ, List.map_append]
  rfl
theorem big_size {n : Nat} (h : n ≤ 1000000) : n < sizeLine := Nat.lt_of_le_of_lt h (by decide)
end
end WP
namespace WP
open PySem L2
theorem free_of {H H' : Hp} {b p : Addr} (e : But b H H') (n : p ≠ b) (h : H' p = none) : H p = none := by
  cases q : H p with
  | none => rfl
  | some o =>
    rw [e p o q n] at h
    cases h
theorem box_ne {H : Hp} {b p : Addr} (h : Box H b) (n : H p = none) : p ≠ b := by
  obtain ⟨i, j, k, e, _⟩ := h
  exact (ne_of_none e n).symm
theorem Box.but {b p : Addr} {H : Hp} {o : HO} (h : Box H b) (n : p ≠ b) : Box (upd H p o) b := by
  obtain ⟨i, j, k, e, hi⟩ := h
  exact ⟨i, j, k, by rw [upd_ne n.symm]; exact e, hi⟩
theorem Box.same {b : Addr} {H H' : Hp} (h : Box H b) (s : Same H H') : Box H' b := by
  obtain ⟨i, j, k, e, hi⟩ := h
  exact ⟨i, j, k, s _ _ e, hi⟩
theorem Same.toBut {b : Addr} {H H' : Hp} (s : Same H H') : But b H H' := fun c o e _ => s c o e
section
variable {K : PySem.W.Frag} {mg : Str → Option Value} {base : Heap} {w : World} {P : Program}
/-! ### a list in another order -/
def spMixed (K : PySem.W.Frag) : Sp := fun vs H Q _ => ∃ (b l : Addr) (xs : List V), vs = [.ref b, .ref l] ∧ Box H b ∧ SqL K H l xs ∧ l ≠ b ∧ xs.length < 1000000 ∧
  ∀ H' p ys, But b H H' → Box H' b → H p = none → H' p = some (.lst ys) → ys.Perm xs → Q (.ref p) H'
theorem perm_out {α : Type} {fs ls xs : List α} {r : Nat} {y : α} (h : (fs ++ ls).Perm xs) (e : ls[r]? = some y) : ((fs ++ [y]) ++ ls.eraseIdx r).Perm xs := by
  refine List.Perm.trans ?_ h
  rw [List.append_assoc]
  refine List.Perm.append_left fs ?_
  obtain ⟨hr, rfl⟩ := List.getElem?_eq_some_iff.mp e
  have h2 := List.eraseIdx_eq_take_drop_succ (l := ls) (i := r)
  rw [h2]
  have h3 : ls = ls.take r ++ (ls[r] :: ls.drop (r + 1)) := by
    rw [List.getElem_cons_drop, List.take_append_drop]
  refine List.Perm.trans ?_ (List.Perm.of_eq h3.symm)
  rw [List.singleton_append]
  exact (List.perm_middle (a := ls[r]) (l₁ := ls.take r) (l₂ := ls.drop (r + 1))).symm
/-! ### shapes: letters, w, k -/
abbrev Shp := Int × Int × Int
def tup3 (s : Shp) : HO := .tup [.int s.1, .int s.2.1, .int s.2.2]
def Rows (H : Hp) (ps : List (Addr × Shp)) : Prop := ∀ p ∈ ps, H p.1 = some (tup3 p.2)
def refs (ps : List (Addr × Shp)) : List V := ps.map fun p => .ref p.1
theorem Rows.same {H H' : Hp} {ps : List (Addr × Shp)} (h : Rows H ps) (s : Same H H') : Rows H' ps := fun p hp => s _ _ (h p hp)
theorem Rows.app {H : Hp} {ps qs : List (Addr × Shp)} (h : Rows H ps) (g : Rows H qs) : Rows H (ps ++ qs) := fun p hp => by
  rcases List.mem_append.mp hp with l | r
  · exact h p l
  · exact g p r
theorem Rows.nil (H : Hp) : Rows H [] := fun p hp => by cases hp
theorem seq_i {t u : TS} {D : Ends} {σ : St} {H : Hp} (h : t { D with nx := u D } σ H) : tSeq t u D σ H := h
theorem asg_i {te : TE} {g : TG} {D : Ends} {σ : St} {H : Hp} (h : te σ H fun x H1 => g x σ H1 D.nx) : tAsg te g D σ H := h
theorem ret_i {te : TE} {D : Ends} {σ : St} {H : Hp} (h : te σ H D.rt) : tRet te D σ H := h
theorem lst_i {t : TA} {σ : St} {H : Hp} {Q : VK} (h : t σ H fun xs H1 => xs.length ≤ sizeLine ∧ ∀ p, H1 p = none → Q (.ref p) (upd H1 p (.lst xs))) : tLst t σ H Q := h
theorem op_i {r : R2} {ta tb : TE} {σ : St} {H : Hp} {Q : VK} (h : ta σ H fun x H1 => tb σ H1 fun y H2 => r x y H2 Q) : tOp r ta tb σ H Q := h
theorem row_step {ps : List (Addr × Shp)} {a b c : Int} {rest : TA} {σ : St} {H0 H : Hp} {Q : List V → Hp → Prop} (s : Same H0 H) (r : Rows H ps)
    (h : ∀ t H', Same H0 H' → Rows H' (ps ++ [(t, (a, b, c))]) → rest σ H' (fun xs H2 => Q (.ref t :: xs) H2)) :
    tCons (tTup (tCons (tC (.int a)) (tCons (tC (.int b)) (tCons (tC (.int c)) tNil)))) rest σ H Q := by
  refine ⟨by show 3 ≤ sizeLine; decide, fun t nt => h t _ (s.trans (same_upd nt)) ((r.same (same_upd nt)).app fun p hp => ?_)⟩
  rw [List.mem_singleton.mp hp]
  exact upd_same
def shapesA : List Shp := [(2, 1, 1), (2, 2, 1), (2, 2, 1), (2, 2, 2), (2, 2, 2), (2, 3, 1), (2, 3, 1), (2, 3, 2), (2, 2, 3)]
def shapesB : List Shp := [(2, 1, 3), (2, 2, 4), (2, 4, 1), (2, 4, 2), (2, 3, 3), (2, 3, 4), (3, 2, 1), (3, 1, 2)]
def shapesC : List Shp := [(3, 2, 2), (3, 3, 1), (3, 1, 4), (4, 1, 1), (4, 2, 1), (4, 1, 2), (4, 2, 2), (4, 1, 3)]
def shapesL : List Shp := shapesA ++ shapesB ++ shapesC
def spShapes : Sp := fun vs H Q _ => vs = [] ∧ ∀ H' p ps, Same H H' → H p = none → H' p = some (.lst (refs ps)) → Rows H' ps → ps.map (·.2) = shapesL → Q (.ref p) H'
theorem refs_len (ps : List (Addr × Shp)) : (refs ps).length = (ps.map (·.2)).length := by
  unfold refs
  rw [List.length_map, List.length_map]
end
end WP
namespace WP
open PySem L2
/-- what is known of a shape -/
def OkS (s w k : Nat) : Prop := (s = 2 ∨ s = 3 ∨ s = 4) ∧ 1 ≤ w ∧ w ≤ 5 ∧ 1 ≤ k ∧ k ≤ 4 ∧ s ^ (w + k - 1) ≤ 256
instance (s w k : Nat) : Decidable (OkS s w k) := by
  unfold OkS
  infer_instance
def okX (x : Shp) : Bool := decide (x.1 = ((x.1.toNat : Nat) : Int) ∧ x.2.1 = ((x.2.1.toNat : Nat) : Int) ∧ x.2.2 = ((x.2.2.toNat : Nat) : Int) ∧ OkS x.1.toNat x.2.1.toNat x.2.2.toNat)
theorem okX_nat {x : Shp} (h : okX x = true) : ∃ s w k : Nat, x = ((s : Int), (w : Int), (k : Int)) ∧ OkS s w k := by
  obtain ⟨h1, h2, h3, h4⟩ := of_decide_eq_true h
  exact ⟨_, _, _, Prod.ext h1 (Prod.ext h2 h3), h4⟩
theorem shapes_ok : ∀ x ∈ shapesL, okX x = true := by
  have h : shapesL.all okX = true := by decide +kernel
  exact fun x hx => List.all_eq_true.mp h x hx
/-- how many texts around a place -/
def okM (most : Nat) (p : Addr × Shp) : Bool := decide (((p.2.1.toNat ^ (2 * p.2.2.1.toNat + p.2.2.2.toNat - 2) : Nat) : Int) ≤ (most : Int))
theorem filt_succ {α β : Type} (f : α → Bool) (g : α → β) {l : List α} {i : Nat} {x : α} (h : l[i]? = some x) :
    (f x = true → ((l.take (i + 1)).filter f).map g = ((l.take i).filter f).map g ++ [g x]) ∧ (f x = false → ((l.take (i + 1)).filter f).map g = ((l.take i).filter f).map g) := by
  rw [List.take_add_one, h]
  show (f x = true → ((l.take i ++ [x]).filter f).map g = _) ∧ (f x = false → ((l.take i ++ [x]).filter f).map g = _)
  rw [List.filter_append]
  constructor
  · intro e
    rw [List.filter_cons_of_pos e, List.map_append]
    rfl
  · intro e
    rw [List.filter_cons_of_neg (by rw [e]; exact Bool.false_ne_true), List.filter_nil, List.append_nil]
/-- the same rules, the written part named (within comprehensions) -/
theorem ixT (K : PySem.W.Frag) {X : Cx} (h : X.K = K := by rfl) : IxR X (rIxT K) := by
  subst h
  exact ix_tup
theorem ixL (K : PySem.W.Frag) {X : Cx} (h : X.K = K := by rfl) : IxR X (rIxL K) := by
  subst h
  exact ix_list
theorem inSq (K : PySem.W.Frag) {X : Cx} (h : X.K = K := by rfl) : OpR X (compareOp .In) (rIn K false) := by
  subst h
  exact op_in_seq
section
variable {K : PySem.W.Frag} {mg : Str → Option Value} {base : Heap} {w : World} {P : Program}
def spShape : Sp := fun vs H Q _ => ∃ (b : Addr) (most : Nat), vs = [.ref b, .int most] ∧ Box H b ∧ 2 ≤ most ∧
  ∀ H' a (s w k : Nat), But b H H' → Box H' b → H' a = some (tup3 ((s : Int), (w : Int), (k : Int))) → OkS s w k → s ^ (2 * w + k - 2) ≤ most → Q (.ref a) H'
end
end WP
namespace WP
open PySem L2
/-! ### slices of texts -/
theorem cut_tx (ds : List Nat) (lo hi : Option Int) : cutS (tx ds) lo hi = tx ((ds.drop (HT.sIx ds.length 0 lo)).take (HT.sIx ds.length ds.length hi - HT.sIx ds.length 0 lo)) := by
  unfold cutS
  rw [tx_len]
  show SX.S (((cod ds).drop _).take _) = SX.S (cod _)
  unfold cod
  rw [List.map_take, List.map_drop (l := ds)]
theorem cut_mid (ds : List Nat) (a c : Nat) : cutS (tx ds) (some (a : Int)) (some (c : Int)) = tx ((ds.drop a).take (c - a)) := by
  rw [cut_tx, HT.sIx_nat, HT.sIx_nat]
  congr 1
  by_cases h : a ≤ ds.length
  · rw [Nat.min_eq_left h]
    by_cases h2 : c ≤ ds.length
    · rw [Nat.min_eq_left h2]
    · rw [Nat.min_eq_right (show ds.length ≤ c by omega), List.take_of_length_le (by rw [List.length_drop]; omega), List.take_of_length_le (by rw [List.length_drop]; omega)]
  · rw [Nat.min_eq_right (show ds.length ≤ a by omega), List.drop_eq_nil_of_le (Nat.le_refl ds.length), List.drop_eq_nil_of_le (show ds.length ≤ a by omega), List.take_nil, List.take_nil]
theorem cut_front (ds : List Nat) : cutS (tx ds) none (some (-1)) = tx ds.dropLast := by
  rw [cut_tx, HT.sIx_none]
  have e : HT.sIx ds.length ds.length (some (-1)) = ds.length - 1 := by
    show (if (-1 : Int) < 0 then ((-1 : Int) + (ds.length : Int)).toNat else min (-1 : Int).toNat ds.length) = ds.length - 1
    rw [if_pos (by decide)]
    omega
  rw [e]
  show tx ((ds.drop 0).take (ds.length - 1 - 0)) = _
  rw [List.drop_zero, Nat.sub_zero, List.dropLast_eq_take]
theorem cut_tail (ds : List Nat) : cutS (tx ds) (some 1) none = tx ds.tail := by
  rw [cut_tx, HT.sIx_none, show HT.sIx ds.length 0 (some 1) = min 1 ds.length from HT.sIx_nat ds.length 0 1]
  congr 1
  cases ds with
  | nil => rfl
  | cons x r =>
    rw [show min 1 (x :: r).length = 1 by rw [List.length_cons]; omega]
    show r.take ((x :: r).length - 1) = r
    rw [List.length_cons, Nat.add_sub_cancel]
    exact List.take_length
/-! ### the piece that comes first -/
/-- the w pieces of k letters of a window -/
def pcs (w k : Nat) (ds : List Nat) : List (List Nat) := (List.range w).map fun i => (ds.drop i).take k
def bestP (ord pc : List (List Nat)) : List Nat := (ord.filter fun p => decide (p ∈ pc)).headD []
def spots (pc : List (List Nat)) (b : List Nat) : List Nat := (List.range pc.length).filter fun i => decide (pc[i]? = some b)
def fstO (ord : List (List Nat)) (last : Bool) (pc : List (List Nat)) : Nat :=
  if last then ((spots pc (bestP ord pc)).getLastD 0) else ((spots pc (bestP ord pc)).headD 0)
theorem pcs_len (w k : Nat) (ds : List Nat) : (pcs w k ds).length = w := by
  unfold pcs
  rw [List.length_map, List.length_range (n := w)]
theorem pcs_get {w k : Nat} {ds : List Nat} {i : Nat} (h : i < w) : (pcs w k ds)[i]? = some ((ds.drop i).take k) := by
  unfold pcs
  rw [List.getElem?_map, List.getElem?_range h]
  rfl
theorem best_in {ord pc : List (List Nat)} (h : ∃ p ∈ ord, p ∈ pc) : bestP ord pc ∈ ord ∧ bestP ord pc ∈ pc := by
  unfold bestP
  obtain ⟨p, h1, h2⟩ := h
  have hm : p ∈ ord.filter fun p => decide (p ∈ pc) := List.mem_filter.mpr ⟨h1, decide_eq_true h2⟩
  cases e : ord.filter fun p => decide (p ∈ pc) with
  | nil =>
    rw [e] at hm
    cases hm
  | cons x r =>
    have hx : x ∈ ord.filter fun p => decide (p ∈ pc) := by
      rw [e]
      exact List.mem_cons_self
    obtain ⟨h3, h4⟩ := List.mem_filter.mp hx
    exact ⟨h3, of_decide_eq_true h4⟩
theorem spots_mem {pc : List (List Nat)} {b : List Nat} {i : Nat} : i ∈ spots pc b ↔ pc[i]? = some b := by
  unfold spots
  rw [List.mem_filter, List.mem_range]
  constructor
  · exact fun h => of_decide_eq_true h.2
  · exact fun h => ⟨(List.getElem?_eq_some_iff.mp h).1, decide_eq_true h⟩
theorem spots_ne {pc : List (List Nat)} {b : List Nat} (h : b ∈ pc) : spots pc b ≠ [] := by
  obtain ⟨i, hi⟩ := List.getElem?_of_mem h
  intro e
  have := spots_mem.mpr hi
  rw [e] at this
  cases this
theorem getLastD_mem {l : List Nat} (h : l ≠ []) (d : Nat) : l.getLastD d ∈ l := by
  cases l with
  | nil => exact absurd rfl h
  | cons x r =>
    rw [List.getLastD_cons]
    cases r with
    | nil => exact List.mem_cons_self
    | cons y r =>
      rw [← List.getLast_eq_getLastD (h := by simp)]
      exact List.mem_cons_of_mem _ (List.getLast_mem _)
theorem fstO_mem {ord : List (List Nat)} {last : Bool} {pc : List (List Nat)} (h : ∃ p ∈ ord, p ∈ pc) : fstO ord last pc ∈ spots pc (bestP ord pc) := by
  have hne := spots_ne (best_in h).2
  unfold fstO
  cases last with
  | true => exact getLastD_mem hne 0
  | false =>
    show (spots pc (bestP ord pc)).headD 0 ∈ _
    cases e : spots pc (bestP ord pc) with
    | nil => exact absurd e hne
    | cons x r => exact List.mem_cons_self
theorem fstO_lt {ord : List (List Nat)} {last : Bool} {pc : List (List Nat)} (h : ∃ p ∈ ord, p ∈ pc) : fstO ord last pc < pc.length :=
  (List.getElem?_eq_some_iff.mp (spots_mem.mp (fstO_mem (last := last) h))).1
theorem rngf_succ {β : Type} (f : Nat → Bool) (g : Nat → β) (i : Nat) :
    (f i = true → ((List.range (i + 1)).filter f).map g = ((List.range i).filter f).map g ++ [g i]) ∧ (f i = false → ((List.range (i + 1)).filter f).map g = ((List.range i).filter f).map g) := by
  rw [List.range_succ, List.filter_append]
  constructor
  · intro e
    rw [List.filter_cons_of_pos e, List.map_append]
    rfl
  · intro e
    rw [List.filter_cons_of_neg (by rw [e]; exact Bool.false_ne_true), List.filter_nil, List.append_nil]
theorem inV_tv {p : List Nat} {l : List (List Nat)} : inV (tv p) (l.map tv) = decide (p ∈ l) := by
  unfold inV
  rw [List.any_map, Bool.eq_iff_iff, List.any_eq_true, decide_eq_true_iff]
  constructor
  · rintro ⟨x, hx, e⟩
    have e2 : (tx x == tx p) = true := e
    have e3 := tx_inj (eq_of_beq e2)
    rw [← e3]
    exact hx
  · intro h
    refine ⟨p, h, ?_⟩
    show (tx p == tx p) = true
    exact beq_self_eq_true _
theorem flat_tv (l : List (List Nat)) : (l.map tv).all flatV = true := by
  rw [List.all_eq_true]
  intro x hx
  obtain ⟨y, _, rfl⟩ := List.mem_map.mp hx
  rfl
theorem tv_at {l : List (List Nat)} {i : Nat} {x : V} (h : (l.map tv)[i]? = some x) : ∃ t, l[i]? = some t ∧ x = tv t := by
  rw [List.getElem?_map] at h
  cases e : l[i]? with
  | none =>
    rw [e] at h
    cases h
  | some t =>
    rw [e] at h
    exact ⟨t, rfl, (Option.some.inj h).symm⟩
section
variable {K : PySem.W.Frag} {mg : Str → Option Value} {base : Heap} {w : World} {P : Program}
abbrev nFirst : List Str := ["_law_shape_here", "_law_order", "_law_is_last", "_law_window", "_law_pieces", "_law_best", "_law_spots", "_law_at", "_law_piece"]
def spFirst (K : PySem.W.Frag) : Sp := fun vs H Q _ => ∃ (a o : Addr) (last : Bool) (ds : List Nat) (s w k : Nat) (ord : List (List Nat)), vs = [.ref a, .ref o, .bl last, tv ds] ∧ H a = some (tup3 ((s : Int), (w : Int), (k : Int))) ∧ OkS s w k ∧
  SqL K H o (ord.map tv) ∧ ord.length ≤ 1000 ∧ ds.length ≤ 1000 ∧ (∃ p ∈ ord, p ∈ pcs w k ds) ∧ ∀ H', Same H H' → Q (.int (fstO ord last (pcs w k ds) : Nat)) H'
end
end WP
namespace WP
open PySem L2
abbrev iv (n : Nat) : V := .int (n : Int)
theorem iv_at {l : List Nat} {i : Nat} {x : V} (h : (l.map iv)[i]? = some x) : ∃ t, l[i]? = some t ∧ x = iv t := by
  rw [List.getElem?_map] at h
  cases e : l[i]? with
  | none =>
    rw [e] at h
    cases h
  | some t =>
    rw [e] at h
    exact ⟨t, rfl, (Option.some.inj h).symm⟩
def byO (s w k : Nat) (ord : List (List Nat)) (last : Bool) : List Nat := (allT s (w + k - 1)).map fun ds => fstO ord last (pcs w k ds)
/-- an order has all pieces -/
def AllP (s k : Nat) (ord : List (List Nat)) : Prop := ∀ p : List Nat, p.length = k → Dig s p → p ∈ ord
theorem Dig.take {s : Nat} {ds : List Nat} (h : Dig s ds) (n : Nat) : Dig s (ds.take n) := fun d hd => h d (List.mem_of_mem_take hd)
theorem Dig.drop {s : Nat} {ds : List Nat} (h : Dig s ds) (n : Nat) : Dig s (ds.drop n) := fun d hd => h d (List.mem_of_mem_drop hd)
theorem piece_in {s w k : Nat} {ord : List (List Nat)} {ds : List Nat} (hw : 1 ≤ w) (hA : AllP s k ord) (hl : w + k - 1 ≤ ds.length) (hd : Dig s ds) {i : Nat} (hi : i < w) : (ds.drop i).take k ∈ ord ∧ (ds.drop i).take k ∈ pcs w k ds :=
  ⟨hA _ (by rw [List.length_take, List.length_drop]; omega) ((hd.drop i).take k), List.mem_of_getElem? (pcs_get hi)⟩
theorem fst_ok {s w k : Nat} {ord : List (List Nat)} {ds : List Nat} (last : Bool) (hw : 1 ≤ w) (hA : AllP s k ord) (hl : w + k - 1 ≤ ds.length) (hd : Dig s ds) : (∃ p ∈ ord, p ∈ pcs w k ds) ∧ fstO ord last (pcs w k ds) < w := by
  have h : ∃ p ∈ ord, p ∈ pcs w k ds := ⟨_, (piece_in hw hA hl hd (i := 0) (by omega)).1, (piece_in hw hA hl hd (i := 0) (by omega)).2⟩
  refine ⟨h, ?_⟩
  have := fstO_lt (last := last) h
  rw [pcs_len] at this
  exact this
/-- a table of a shape -/
def Tab (s w k : Nat) (tb : List Nat) : Prop := tb.length = s ^ (w + k - 1) ∧ ∀ x ∈ tb, x < w
theorem byO_tab {s w k : Nat} {ord : List (List Nat)} {last : Bool} (hw : 1 ≤ w) (hA : AllP s k ord) : Tab s w k (byO s w k ord last) := by
  refine ⟨by unfold byO; rw [List.length_map, allT_len], fun x hx => ?_⟩
  obtain ⟨ds, hds, rfl⟩ := List.mem_map.mp hx
  obtain ⟨h1, h2⟩ := (allT_mem s _ ds).mp hds
  exact (fst_ok last hw hA (Nat.le_of_eq h1.symm) h2).2
theorem pow_k {s w k : Nat} (hs : s = 2 ∨ s = 3 ∨ s = 4) (hw : 1 ≤ w) (h : s ^ (w + k - 1) ≤ 256) : s ^ k ≤ 256 :=
  Nat.le_trans (Nat.pow_le_pow_right (by omega) (by omega)) h
def unV (v : V) : List Nat := match v with
  | .str z => z.cps.toList.map (· - 97)
  | _ => []
theorem unV_tv (t : List Nat) : unV (tv t) = t := by
  show (cod t).map (· - 97) = t
  unfold cod
  rw [List.map_map]
  have e : ((fun x : Nat => x - 97) ∘ fun x => 97 + x) = id := by
    funext x
    show 97 + x - 97 = x
    omega
  rw [e, List.map_id]
theorem perm_tv {ys : List V} {l : List (List Nat)} (h : ys.Perm (l.map tv)) : ∃ o : List (List Nat), ys = o.map tv ∧ o.Perm l := by
  have e1 : (l.map tv).map unV = l := by
    rw [List.map_map]
    have e : (unV ∘ tv) = id := funext unV_tv
    rw [e, List.map_id]
  refine ⟨ys.map unV, ?_, ?_⟩
  · rw [List.map_map]
    conv => lhs; rw [← List.map_id ys]
    refine List.map_congr_left fun y hy => ?_
    obtain ⟨t, _, rfl⟩ := List.mem_map.mp (h.mem_iff.mp hy)
    show tv t = tv (unV (tv t))
    rw [unV_tv]
  · have h2 := h.map unV
    rw [e1] at h2
    exact h2
theorem ixN_of {n : Nat} {j : Int} (h0 : 0 ≤ j) (h : j < n) : ixN n j = some j.toNat := by
  unfold ixN
  rw [if_pos h0, if_pos h]
theorem wk_int {w k : Nat} (hw : 1 ≤ w) : ((w : Int) + k - 1) = ((w + k - 1 : Nat) : Int) := by omega
section
variable {K : PySem.W.Frag} {mg : Str → Option Value} {base : Heap} {w : World} {P : Program}
/-! ### the table by an order -/
abbrev nBy : List Str := ["_law_shape_here", "_law_order", "_law_is_last", "_law_windows", "_law_window"]
def spBy (K : PySem.W.Frag) : Sp := fun vs H Q _ => ∃ (a o : Addr) (last : Bool) (s w k : Nat) (ord : List (List Nat)), vs = [.ref a, .ref o, .bl last] ∧ H a = some (tup3 ((s : Int), (w : Int), (k : Int))) ∧ OkS s w k ∧
  SqL K H o (ord.map tv) ∧ ord.length ≤ 1000 ∧ AllP s k ord ∧ ∀ H' p, Same H H' → H p = none → H' p = some (.lst ((byO s w k ord last).map iv)) → Q (.ref p) H'
/-! ### a drawn table -/
abbrev nTable : List Str := ["_law_box_here", "_law_shape_here", "_law_form", "_law_found", "_law_window"]
def spTable : Sp := fun vs H Q _ => ∃ (b a : Addr) (s w k : Nat), vs = [.ref b, .ref a] ∧ Box H b ∧ H a = some (tup3 ((s : Int), (w : Int), (k : Int))) ∧ OkS s w k ∧
  ∀ H' p tb, But b H H' → Box H' b → H p = none → H' p = some (.lst (tb.map iv)) → Tab s w k tb → Q (.ref p) H'
end
end WP
namespace WP
open PySem L2
section
variable {K : PySem.W.Frag} {mg : Str → Option Value} {base : Heap} {w : World} {P : Program}
/-- what isinstance says of ints, texts, lists -/
theorem is_int {H : Hp} (i : Int) : TyX K H (.int i) (.type "int") := .base (.int i)
/-! ### is_between, of an int within the bounds -/
def spBetween : Sp := fun vs H Q _ => ∃ i lo hi : Int, vs = [.int i, .int lo, .int hi] ∧ lo ≤ i ∧ i ≤ hi ∧ Q (.bl true) H
/-! ### is_sequence, of a list -/
def spSeq (K : PySem.W.Frag) : Sp := fun vs H Q _ => ∃ (p : Addr) (xs : List V), vs = [.ref p] ∧ H p = some (.lst xs) ∧ ∀ H', Same H H' → Q (.bl true) H'
/-! ### count_of -/
/-! ### number_of -/
def spNumber : Sp := fun vs H Q _ => ∃ (s : Nat) (ds : List Nat), vs = [.int s, tv ds] ∧ s ≤ 4 ∧ Dig 4 ds ∧ ds.length ≤ 100000 ∧ Q (.int (num s ds : Nat)) H
theorem find_abc : ∀ d : Nat, d < 4 → Txt.find ("abcd" : Str) ⟨#[97 + d]⟩ = (d : Int) := by
  intro d hd
  have : d = 0 ∨ d = 1 ∨ d = 2 ∨ d = 3 := by omega
  rcases this with rfl | rfl | rfl | rfl <;> decide +kernel
theorem cps_at {ds : List Nat} {i : Nat} {c : Nat} (h : (tx ds).cps[i]? = some c) : ∃ d, ds[i]? = some d ∧ c = 97 + d := by
  have e : (tx ds).cps.toList = cod ds := rfl
  rw [← Array.getElem?_toList, e] at h
  unfold cod at h
  rw [List.getElem?_map] at h
  cases q : ds[i]? with
  | none =>
    rw [q] at h
    cases h
  | some d =>
    rw [q] at h
    exact ⟨d, rfl, (Option.some.inj h).symm⟩
theorem cps_size (ds : List Nat) : (tx ds).cps.size = ds.length := by
  show (cod ds).toArray.size = ds.length
  rw [List.size_toArray, cod_len]
/-! ### check_letters, of a good text -/
def spCheck : Sp := fun vs H Q _ => ∃ (s : Nat) (ds : List Nat), vs = [.int s, tv ds] ∧ (s = 2 ∨ s = 3 ∨ s = 4) ∧ Dig s ds ∧ ds.length ≤ 100000 ∧ ∀ H', Same H H' → Q .non H'
theorem tx_ascii {s : Nat} {ds : List Nat} (hs : s ≤ 4) (h : Dig s ds) : (tx ds).cps.all (· < 128) = true := by
  rw [← Array.all_toList]
  show (cod ds).all _ = true
  rw [List.all_eq_true]
  intro c hc
  obtain ⟨d, hd, rfl⟩ := List.mem_map.mp hc
  have := h d hd
  exact decide_eq_true (show 97 + d < 128 by omega)
theorem in_abc {s d : Nat} (h : d < s) : decide ((97 + d) ∈ (abc s).cps.toList) = true := by
  refine decide_eq_true ?_
  show 97 + d ∈ cod (List.range s)
  exact List.mem_map_of_mem (List.mem_range.mpr h)
end
end WP
namespace WP
open PySem L2
/-- sizes that are let -/
def OkG (s w k : Nat) : Prop := (s = 2 ∨ s = 3 ∨ s = 4) ∧ 1 ≤ w ∧ w ≤ 5 ∧ 1 ≤ k ∧ k ≤ 4
theorem OkS.g {s w k : Nat} (h : OkS s w k) : OkG s w k := ⟨h.1, h.2.1, h.2.2.1, h.2.2.2.1, h.2.2.2.2.1⟩
/-- the attributes in the order in which they are stored -/
def rflds (s w k : Nat) (t : Addr) : List (Str × V) := putF "table" (.ref t) (putF "k" (iv k) (putF "w" (iv w) (putF "letters" (iv s) [])))
theorem n1 : ¬ (("letters" : Str) = "table") := by decide +kernel
theorem n2 : ¬ (("w" : Str) = "table") := by decide +kernel
theorem n3 : ¬ (("k" : Str) = "table") := by decide +kernel
theorem n4 : ¬ (("letters" : Str) = "k") := by decide +kernel
theorem n5 : ¬ (("w" : Str) = "k") := by decide +kernel
theorem n6 : ¬ (("letters" : Str) = "w") := by decide +kernel
theorem rf_table (s w k : Nat) (t : Addr) : (rflds s w k t).lookup ("table" : Str) = some (.ref t) := by
  unfold rflds
  rw [lookup_putF, if_pos rfl]
theorem rf_k (s w k : Nat) (t : Addr) : (rflds s w k t).lookup ("k" : Str) = some (iv k) := by
  unfold rflds
  rw [lookup_putF, if_neg n3, lookup_putF, if_pos rfl]
theorem rf_w (s w k : Nat) (t : Addr) : (rflds s w k t).lookup ("w" : Str) = some (iv w) := by
  unfold rflds
  rw [lookup_putF, if_neg n2, lookup_putF, if_neg n5, lookup_putF, if_pos rfl]
theorem rf_letters (s w k : Nat) (t : Addr) : (rflds s w k t).lookup ("letters" : Str) = some (iv s) := by
  unfold rflds
  rw [lookup_putF, if_neg n1, lookup_putF, if_neg n4, lookup_putF, if_neg n6, lookup_putF, if_pos rfl]
theorem rf_no {m : Str} (h1 : ¬ m = "table") (h2 : ¬ m = "k") (h3 : ¬ m = "w") (h4 : ¬ m = "letters") (s w k : Nat) (t : Addr) : (rflds s w k t).lookup m = none := by
  unfold rflds
  rw [lookup_putF, if_neg h1, lookup_putF, if_neg h2, lookup_putF, if_neg h3, lookup_putF, if_neg h4]
  rfl
/-- a rule stands at x -/
def RuleAt (C : Addr) (H : Hp) (x : Addr) (s w k : Nat) (tb : List Nat) : Prop := ∃ dx t, H x = some (.ins C dx (rflds s w k t)) ∧ H t = some (.tup (tb.map iv))
/-- a rule that is made: its table's tuple is new -/
def RuleN (C : Addr) (H H' : Hp) (x : Addr) (s w k : Nat) (tb : List Nat) : Prop := ∃ dx t, H' x = some (.ins C dx (rflds s w k t)) ∧ H' t = some (.tup (tb.map iv)) ∧ H t = none
theorem RuleN.at {C x : Addr} {H H' : Hp} {s w k : Nat} {tb : List Nat} (h : RuleN C H H' x s w k tb) : RuleAt C H' x s w k tb := by
  obtain ⟨dx, t, h1, h2, _⟩ := h
  exact ⟨dx, t, h1, h2⟩
theorem RuleN.back {C x : Addr} {H0 H H' : Hp} {s w k : Nat} {tb : List Nat} (h : RuleN C H H' x s w k tb) (e : Same H0 H) : RuleN C H0 H' x s w k tb := by
  obtain ⟨dx, t, h1, h2, h3⟩ := h
  exact ⟨dx, t, h1, h2, e.free h3⟩
theorem RuleAt.same {C x : Addr} {H H' : Hp} {s w k : Nat} {tb : List Nat} (h : RuleAt C H x s w k tb) (e : Same H H') : RuleAt C H' x s w k tb := by
  obtain ⟨dx, t, h1, h2⟩ := h
  exact ⟨dx, t, e _ _ h1, e _ _ h2⟩
/-- what is asked of the class as the top has made it -/
structure RTxt (K : PySem.W.Frag) (mg : Str → Option Value) (C : Addr) : Prop where
  cl : Cls K C
  nL : NoAttr K C "letters"
  nW : NoAttr K C "w"
  nK : NoAttr K C "k"
  nT : NoAttr K C "table"
  mgC : mg "Rule" = some (.ref C)
section
variable {K : PySem.W.Frag} {mg : Str → Option Value} {base : Heap} {w : World} {P : Program}
/-! ### the checks of the sizes and of the table -/
def spSizes : Sp := fun vs H Q _ => ∃ s w k : Nat, vs = [iv s, iv w, iv k] ∧ OkG s w k ∧ Q .non H
def spIsTable : Sp := fun vs H Q _ => ∃ (s w k : Nat) (p : Addr) (tb : List Nat), vs = [iv s, iv w, iv k, .ref p] ∧ OkG s w k ∧ H p = some (.lst (tb.map iv)) ∧ Tab s w k tb ∧ tb.length ≤ 100000 ∧ ∀ H', Same H H' → Q (.bl true) H'
abbrev nIsTable : List Str := ["letters", "w", "k", "table", "at"]
end
end WP
namespace WP
open PySem L2
theorem putF_len (f : Str) (v : V) : ∀ fs : List (Str × V), (putF f v fs).length ≤ fs.length + 1
  | [] => Nat.le_refl _
  | (g, x) :: r => by
    show (if g = f then (g, v) :: r else (g, x) :: putF f v r).length ≤ _
    split
    · exact Nat.le_succ _
    · exact Nat.succ_le_succ (putF_len f v r)
section
variable {K : PySem.W.Frag} {mg : Str → Option Value} {base : Heap} {w : World} {P : Program}
/-! ### a rule is made -/
def spInit (C : Addr) : Sp := fun vs H Q _ => ∃ (x dx p : Addr) (s w k : Nat) (tb : List Nat), vs = [.ref x, iv s, iv w, iv k, .ref p] ∧ H x = some (.ins C dx []) ∧ OkG s w k ∧ H p = some (.lst (tb.map iv)) ∧ Tab s w k tb ∧ tb.length ≤ 100000 ∧
  ∀ H', RuleN C H H' x s w k tb → (∀ c o, H c = some o → c ≠ x → H' c = some o) → Q .non H'
/-! ### the offset for a good window -/
def spOffset (C : Addr) : Sp := fun vs H Q _ => ∃ (x : Addr) (s w k : Nat) (tb ds : List Nat), vs = [.ref x, tv ds] ∧ RuleAt C H x s w k tb ∧ OkG s w k ∧ tb.length = s ^ (w + k - 1) ∧ ds.length = w + k - 1 ∧ Dig s ds ∧ ∀ H', Same H H' → Q (iv (tb.getD (num s ds) 0)) H'
theorem getD_at {l : List Nat} {i : Nat} (h : i < l.length) : (l.map iv)[i]? = some (iv (l.getD i 0)) := by
  rw [List.getD_eq_getElem?_getD, List.getElem?_map, List.getElem?_eq_getElem h]
  rfl
end
end WP
namespace WP
open PySem L2
/-- a drawn rule: a tuple of three numbers and a table -/
def DrawnAt (H : Hp) (d p : Addr) (s w k : Nat) (tb : List Nat) : Prop := H d = some (.tup [iv s, iv w, iv k, .ref p]) ∧ H p = some (.lst (tb.map iv))
theorem DrawnAt.same {H H' : Hp} {d p : Addr} {s w k : Nat} {tb : List Nat} (h : DrawnAt H d p s w k tb) (e : Same H H') : DrawnAt H' d p s w k tb := ⟨e _ _ h.1, e _ _ h.2⟩
theorem Dig.front {s : Nat} {ds : List Nat} (h : Dig s ds) : Dig s ds.dropLast := fun d hd => h d (List.dropLast_subset ds hd)
theorem Dig.tail {s : Nat} {ds : List Nat} (h : Dig s ds) : Dig s ds.tail := fun d hd => h d (List.mem_of_mem_tail hd)
theorem pow_wk {s w k : Nat} (h : OkS s w k) : s ^ (w + k) ≤ 1024 := by
  obtain ⟨h1, h2, h3, h4, h5, h6⟩ := h
  have e : w + k = (w + k - 1) + 1 := by omega
  rw [e, Nat.pow_succ]
  have := Nat.mul_le_mul h6 (show s ≤ 4 by omega)
  omega
theorem find_at : ∀ d : Nat, d < 4 → Builtin.Str.occurrences ("abcd" : Str) ⟨#[97 + d]⟩ 0 ("abcd" : Str).length 1 = [d] := by
  intro d hd
  have : d = 0 ∨ d = 1 ∨ d = 2 ∨ d = 3 := by omega
  rcases this with rfl | rfl | rfl | rfl <;> decide +kernel
section
variable {K : PySem.W.Frag} {mg : Str → Option Value} {base : Heap} {w : World} {P : Program}
/-! ### a rule of what was drawn -/
def spRuleOf (C : Addr) : Sp := fun vs H Q _ => ∃ (d p : Addr) (s w k : Nat) (tb : List Nat), vs = [.ref d] ∧ DrawnAt H d p s w k tb ∧ OkS s w k ∧ Tab s w k tb ∧ ∀ H' x, Same H H' → H x = none → RuleN C H H' x s w k tb → Q (.ref x) H'
/-! ### the law's own offset -/
end
end WP
namespace WP
open PySem L2
section
variable {K : PySem.W.Frag} {mg : Str → Option Value} {base : Heap} {w : World} {P : Program}
def spSpot : Sp := fun vs H Q _ => ∃ (d p : Addr) (s w k : Nat) (tb ds : List Nat), vs = [.ref d, tv ds] ∧ DrawnAt H d p s w k tb ∧ OkS s w k ∧ tb.length = s ^ (w + k - 1) ∧ ds.length = w + k - 1 ∧ Dig s ds ∧ Q (iv (tb.getD (num s ds) 0)) H
end
end WP
namespace WP
open PySem L2
theorem repr_bl {X : Cx} : CallR X (.builtin "repr") (fun xs H Q => ∃ b, xs = [.bl b] ∧ Q (.str (if b then "True" else "False")) H) := by
  intro pn s σ H xs us Q J r h
  obtain ⟨b, e, q⟩ := h
  subst e
  obtain ⟨u, eu, ru⟩ := vals1 r
  subst eu
  have ru : u = Value.bool b := ru
  subst ru
  exact PySem.P.repr_of_bool ⟨.str _, H, J.tok _, ⟨_, rfl⟩, q⟩
section
variable {K : PySem.W.Frag} {mg : Str → Option Value} {base : Heap} {w : World} {P : Program}
/-! ### a drawn rule -/
def Drawing (b : Addr) (H : Hp) (Q : VK) : Prop := ∀ H' d p (s w k : Nat) tb, But b H H' → Box H' b → H d = none → H p = none → DrawnAt H' d p s w k tb → OkS s w k → Tab s w k tb → Q (.ref d) H'
def spRule : Sp := fun vs H Q _ => ∃ (b : Addr) (most : Nat), vs = [.ref b, .int most] ∧ Box H b ∧ 2 ≤ most ∧ Drawing b H Q
theorem tup_ne {a b : Addr} {H : Hp} {xs : List V} (hb : Box H b) (h : H a = some (.tup xs)) : a ≠ b := by
  obtain ⟨i, j, k, e, _⟩ := hb
  exact ne_of h e (by intro z; cases z)
end
end WP
namespace WP
open L2 PySem PySem.Spec PyProof.Rows
/-! ### set(list of numbers), sorted of a set of numbers, any size -/
section
variable {P : Program} {w : World} {A : Around} {E : Value → Shared → Prop} {s : Shared}
/-- what set() lays -/
abbrev bare (w : World) : Obj := { cls := .type "set", dict := none, data := .set #[] 0 (.fresh 0 0 (!w.params.followText "set-order")) }
set_option maxRecDepth 100000 in
set_option maxHeartbeats 3200000 in
theorem set_of_list {l : Addr} {its : Array Value} {ns : List Int} {Q : Value → Shared → Prop} (hA : A.handled = none) (hl : s.heap.IsList l its) (hi : IntsAre its.toList ns) (hb : ns.length + 1 < scanBound)
    (q : ∀ (h' : Heap) (tk c : Nat), SetR w h' s.heap.objs.size (fun j => decide (j ∈ ns)) c → c ≤ ns.length → (∀ b o, s.heap.get? b = some o → h'.get? b = some o) → Q (.ref s.heap.objs.size) { s with heap := h', toks := tk }) :
    wpAny (model P w) A (call (.type "set") [.ref l]) Q E s := by
  have sz : its.size = ns.length := (Array.length_toList).symm.trans (IntsAre.length hi)
  obtain ⟨c0, tl, hmro⟩ := F.called_set.mro
  have a1 := F.called_set.made
  have a2 := F.called_set.sub
  have a3 := F.called_set.notType
  have a4 := F.called_set.canCreate
  have a5 := F.typeCall_set_1 (.ref l)
  refine wpAny_call (codeAny_of_tree ?_)
  show wpAny _ _ (callAny (.type "set") _) _ _ _
  refine wpAny_pure ⟨Code.quiet_builtin _ (by decide +kernel), codeAny_builtin F.entry_type_call ?_⟩
  rw [Around.under_plain (weight_type_call_type "set" [.ref l] []) rfl]
  repeat (any_goals (first | assumption | wp_step))
  refine codeAny_mono (code_set_led1 (.ref l) (E := E) (Q₁ := fun v s1 => v = .ref s.heap.objs.size ∧ s1 = { s with heap := s.heap.push (bare w) }) ⟨rfl, rfl⟩) fun r s1 hr => ?_
  match r, hr with
  | .error _, hr => exact hr
  | .ok (.ret v), hr =>
    obtain ⟨rfl, rfl⟩ := hr
    have b0 : (s.heap.push (bare w)).get? s.heap.objs.size = some (bare w) := Heap.get?_push_size _ rfl
    have b1 : Shared.TypeIs { s with heap := s.heap.push (bare w) } (.ref s.heap.objs.size) "set" := ⟨_, b0, rfl⟩
    have b2 := F.called_set.init.lookup
    have b3 := F.called_set.init.bind (.ref s.heap.objs.size)
    repeat (any_goals (first | assumption | wp_step))
    refine codeAny_mono (codeAny_call_builtin (R := wants (fun r s2 => r = .none ∧ ∃ h' tk c, s2 = { s with heap := h', toks := tk } ∧ SetR w h' s.heap.objs.size (fun j => decide (j ∈ ns)) c ∧ c ≤ ns.length ∧ ∀ b o, s.heap.get? b = some o → h'.get? b = some o) E)
      F.called_set.init.plain F.entry_set_init (check_set_init_1 b1 ?_)) fun r2 s2 hr2 => ?_
    · obtain ⟨⟨oc, od, odat, osl⟩, hol, e1, nl, e2⟩ := hl
      simp only at e1 e2
      subst e1
      subst e2
      have hz : (s.heap.push (bare w)).get? l = some { cls := .type "list", dict := od, data := .seq its nl, slots := osl } := Heap.get?_push_of_some _ hol
      have f1 := F.sub_list_set
      have f2 := F.sub_list_frozenset
      have f3 : (Value.type "list" == Value.type "dict") = false := by decide
      have hl1 : (s.heap.push (bare w)).IsList l its := ⟨_, hz, rfl, nl, rfl⟩
      unfold Builtin.«set.__init__» noKeywords Builtin.Frozenset.updateFrom
      generalize hPI : pyIter = PI
      wp_walk
      subst hPI
      refine wpAny_pyIter_list hl1 (wpAny_bind (wpAny_runValue ?_))
      have lt : l < s.heap.objs.size := Heap.lt_size hol
      have n1 : l ≠ (s.heap.push (bare w)).objs.size := by
        rw [Heap.size_push]
        exact Nat.ne_of_lt (Nat.lt_succ_of_lt lt)
      have n2 : s.heap.objs.size ∉ [(s.heap.push (bare w)).objs.size, l] := by
        rw [Heap.size_push]
        intro z
        rcases List.mem_cons.mp z with z | z
        · exact absurd z (Nat.ne_of_lt (Nat.lt_succ_self _))
        · exact absurd (List.mem_singleton.mp z) (Nat.ne_of_gt lt)
      have hv : ∀ (i : Nat) (v : Value), its[i]? = some v → ∃ k t, ns[i]? = some k ∧ v = .int k t := by
        intro i v hv
        have hi2 : i < ns.length := sz ▸ (Array.getElem?_eq_some_iff.mp hv).1
        obtain ⟨t, e⟩ := PyProof.Rows.IntsAre.int_at hi i v ((Array.getElem?_toList ..).trans hv)
        refine ⟨ns[i], t, List.getElem?_eq_getElem hi2, e.trans ?_⟩
        rw [List.getD_eq_getElem?_getD, List.getElem?_eq_getElem hi2]
        rfl
      have hh3 : A.in1.in1.in1.handled = none := by simp [hA]
      refine set_update_ints ((Walks.list hh3 _ l n1 its).toS) s.heap.objs.size n2 ns sz hb hv (its.size - 0) 0 _ (by omega) (Nat.zero_le _)
        ⟨⟨_, Heap.get?_push_size _ rfl, rfl, rfl⟩, (hl1.push _)⟩ ⟨0, Nat.le_refl 0, setR_new_at (Heap.get?_push_of_some _ b0)⟩ fun s3 c hm hc R3 => ?_
      obtain ⟨h3, g3, d3, t3, o3⟩ := s3
      obtain rfl : g3 = s.gens := hm.gens
      obtain rfl : d3 = s.drawn := hm.drawn
      obtain rfl : o3 = s.os := hm.os
      show wpAny _ _ _ _ _ _
      refine wpAny_pure ?_
      show wpAny _ _ (ret Value.none) _ _ _
      refine wpAny_pure ⟨rfl, h3, t3, c, rfl, R3, sz ▸ hc, fun b o e => ?_⟩
      have lb : b < s.heap.objs.size := Heap.lt_size e
      refine hm.heap b o (fun z => ?_) (Heap.get?_push_of_some _ (Heap.get?_push_of_some _ e))
      rcases List.mem_cons.mp z with z | z
      · exact absurd z (Nat.ne_of_lt lb)
      · rw [List.mem_singleton, Heap.size_push] at z
        exact absurd z (Nat.ne_of_lt (Nat.lt_succ_of_lt lb))
    · match r2, hr2 with
      | .error _, hr2 => exact hr2
      | .ok (.ret r), hr2 =>
        obtain ⟨rfl, h', tk, c, rfl, R3, hc, hk⟩ := hr2
        repeat (any_goals (first | assumption | wp_step))
        exact q _ _ _ R3 hc hk
theorem sorted_of_set {a : Addr} {S : Int → Bool} {n : Nat} {Q : Value → Shared → Prop} (R : SetR w s.heap a S n) (hA : A.handled = none)
    (q : ∀ s' p (out : Array Value) (c : Nat) (ns : List Int), (∀ b o, s.heap.get? b = some o → s'.heap.get? b = some o) → s'.gens = s.gens → s'.os = s.os → s.heap.objs.size ≤ p → s'.heap.get? p = some (seqObj "list" out c) → IntsAre out.toList ns → ns.Pairwise (· < ·) →
      (∀ k, k ∈ ns ↔ S k = true) → ns.length ≤ sizeLine → Q (.ref p) s') : wpAny (model P w) A (call (.builtin "sorted") [.ref a]) Q E s := by
  obtain ⟨o, es, ep, t, ho, hex, hd, g, nd, hm, hb, hf, hn, hr, hl⟩ := R
  refine Calls.call_function_entry kind_sorted plain_sorted entry_sorted (args_sorted1 _) ?_
  unfold Builtin.«sorted»
  refine wpAny_bind (m := checkCount "sorted" 1 1 _) (wpAny_pure (wpAny_bind (collect_set (A := A.in1) hA ⟨o, ho, hex.1, hd⟩ hf hb hr hl fun s1 vs k1 hz g1 o1 pm => ?_)))
  have hI : IntsAre vs (vs.map Builtin.Re.reRawOf) := ints_of vs fun v hv => by
    obtain ⟨e, he, z⟩ := List.mem_map.mp (pm.mem_iff.mp hv)
    obtain ⟨k, tk, h1, _⟩ := g e he
    exact ⟨k, tk, z ▸ h1⟩
  have pk : (vs.map Builtin.Re.reRawOf).Perm (es.toList.map keyOf) := by
    have z := pm.map Builtin.Re.reRawOf
    rw [List.map_map] at z
    exact z
  have sl : vs.length ≤ sizeLine := by
    rw [pm.length_eq, List.length_map, Array.length_toList]
    exact fits_of_scanBound hb
  refine wpAny_bind (wpAny_newList ?_ sl)
  have hoL : (s1.heap.push (seqObj "list" vs.toArray 0)).get? s1.heap.objs.size = some (seqObj "list" vs.toArray 0) := Heap.get?_push_size _ rfl
  refine wpAny_bind (wpAny_holding (wpAny_call_entry slot_list_sort ⟨_, hoL, rfl⟩ entry_list_sort (list_sort_treeAny hoL hI sl fun out ns' b1 b2 b3 => ⟨_, rfl, ?_⟩) (args_list_sort _)))
  obtain ⟨c, hc⟩ := sortedHeap_at (vs := vs) (out := out) hoL
  have pn := b2.trans pk
  refine wpAny_pure ⟨_, rfl, q _ s1.heap.objs.size out c ns' (fun b u e => ?_) g1 o1 hz hc b1 (lt_of_le_nodup ns' b3 (pn.nodup_iff.mpr nd)) (fun k => pn.mem_iff.trans (hm k).symm) ?_⟩
  · have z := k1 b u e
    have lt := Heap.lt_size z
    show (sortedHeap (s1.heap.push (seqObj "list" vs.toArray 0)) s1.heap.objs.size vs out).get? b = some u
    rw [sortedHeap_old (Nat.ne_of_lt lt) (by rw [size_push']; exact Nat.lt_succ_of_lt lt)]
    exact Heap.get?_push_of_some _ z
  · rw [pn.length_eq, ← pk.length_eq, List.length_map]
    exact sl
end
section
variable {X : Cx}
def rSetL (K : PySem.W.Frag) (w : World) : List V → Hp → VK → Prop := fun xs H Q => ∃ (l : Addr) (ns : List Int), xs = [.ref l] ∧ SqL K H l (ns.map V.int) ∧ ns.length ≤ 1000 ∧ ∀ p c, H p = none → Q (.ref p) (upd H p (SetO w p (fun k => decide (k ∈ ns)) c))
theorem cr_setL (hc : X.calm = true) : CallR X (.type "set") (rSetL X.K X.w) := by
  intro pins s σ H xs us Q I r h
  obtain ⟨l, ns, rfl, hs, hn, q⟩ := h
  obtain ⟨its, rv, hl, _⟩ := I.list hs
  rw [Vals.ref1 r]
  refine set_of_list (its := its.toArray) (I.ok.hd hc) hl.isList rv.ints (by unfold scanBound; omega) fun h' tk c R _ k => ?_
  exact ⟨.ref _, _, I.laid (t' := tk) k (Nat.le_refl _) (setO_new R), rfl, q _ c (I.hok.fresh (Nat.le_refl _))⟩
def rSrtS (w : World) : List V → Hp → VK → Prop := fun xs H Q => ∃ (a : Addr) (S : Int → Bool) (n : Nat), xs = [.ref a] ∧ H a = some (SetO w a S n) ∧ ∀ (ns : List Int) (p : Addr), ns.Pairwise (· < ·) → (∀ k : Int, k ∈ ns ↔ S k = true) → H p = none → Q (.ref p) (upd H p (.lst (ns.map V.int)))
theorem cr_srtS (hc : X.calm = true) : CallR X (.builtin "sorted") (rSrtS X.w) := by
  intro pins s σ H xs us Q I r h
  obtain ⟨a, S, n, rfl, ha, q⟩ := h
  rw [Vals.ref1 r]
  refine sorted_of_set (setO_get I ha) (I.ok.hd hc) fun s' p out c ns k g o hp hg hi hs hm hl => ?_
  have np : H p = none := I.hok.fresh hp
  have J : Inv X pins σ (upd H p (.lst (ns.map V.int))) { s with heap := s'.heap, gens := s'.gens, drawn := s'.drawn, toks := s'.toks } :=
    I.call (ch := []) (Un.laid k hp np) (I.hok.laid k hp ⟨by rw [List.length_map]; exact hl, out.toList, c, vals_of_ints hi, hg⟩) (by rw [g]; exact I.bare) (fun _ z => nomatch z)
  obtain ⟨hp2, gg, dr, tk, os⟩ := s'
  obtain rfl : os = s.os := o
  exact ⟨.ref p, _, J, rfl, q ns p hs hm np⟩
end
end WP
namespace WP
open PySem L2
/-- the place that the window at j picks -/
def plc (s w k : Nat) (tb ds : List Nat) (j : Nat) : Nat := j + tb.getD (num s ((ds.drop j).take (w + k - 1))) 0
/-- how many windows a text has -/
def wins (w k : Nat) (ds : List Nat) : Nat := ds.length + 1 - (w + k - 1)
def Places (s w k : Nat) (tb ds : List Nat) (ns : List Int) : Prop := ns.Pairwise (· < ·) ∧ ∀ z : Int, z ∈ ns ↔ ∃ j, j < wins w k ds ∧ z = (plc s w k tb ds j : Nat)
section
variable {K : PySem.W.Frag} {mg : Str → Option Value} {base : Heap} {w : World} {P : Program}
theorem asc_few : ∀ (m : Nat) (ns : List Int) (f : Nat → Int), ns.Pairwise (· < ·) → (∀ z ∈ ns, ∃ j, j < m ∧ z = f j) → ns.length ≤ m := by
  intro m ns f hp hz
  have nd : ns.Nodup := hp.imp fun h => Int.ne_of_lt h
  have := List.Nodup.length_le_of_subset nd (l₂ := (List.range m).map f) (fun z h => by
    obtain ⟨j, hj, rfl⟩ := hz z h
    exact List.mem_map.mpr ⟨j, List.mem_range.mpr hj, rfl⟩)
  rw [List.length_map, List.length_range] at this
  exact this
theorem places_few {s w k : Nat} {tb ds : List Nat} {ns : List Int} (h : Places s w k tb ds ns) : ns.length ≤ wins w k ds :=
  asc_few _ ns (fun j => ((plc s w k tb ds j : Nat) : Int)) h.1 fun z hz => (h.2 z).mp hz
/-! ### picks -/
theorem wins_int {w k : Nat} (hw : 1 ≤ w) (n : Nat) : ((n : Int) - ((w : Int) + k - 1) + 1).toNat = n + 1 - (w + k - 1) := by omega
theorem win_ok {s n j : Nat} {ds : List Nat} (h : j + n ≤ ds.length) (hd : Dig s ds) : ((ds.drop j).take n).length = n ∧ Dig s ((ds.drop j).take n) :=
  ⟨by rw [List.length_take, List.length_drop]; omega, (hd.drop j).take n⟩
abbrev nPicks : List Str := ["rule", "text", "size", "places", "at"]
def spPicksV (C : Addr) : Sp := fun vs H Q _ => ∃ (x : Addr) (s w k : Nat) (tb ds : List Nat), vs = [.ref x, tv ds] ∧ RuleAt C H x s w k tb ∧ OkG s w k ∧ tb.length = s ^ (w + k - 1) ∧ ds.length ≤ 1000 ∧ Dig s ds ∧
  ∀ H' t ns, Same H H' → H t = none → H' t = some (.tup (ns.map V.int)) → Places s w k tb ds ns → Q (.ref t) H'
/-! ### whether the place amid a text is picked -/
/-- whether the place a is picked -/
def pkd (s w k : Nat) (tb ds : List Nat) (a : Nat) : Bool := (List.range (wins w k ds)).any fun j => plc s w k tb ds j == a
theorem pkd_iff {s w k : Nat} {tb ds : List Nat} {a : Nat} : pkd s w k tb ds a = true ↔ ∃ j, j < wins w k ds ∧ (a : Int) = (plc s w k tb ds j : Nat) := by
  unfold pkd
  rw [List.any_eq_true]
  constructor
  · rintro ⟨j, hj, e⟩
    exact ⟨j, List.mem_range.mp hj, by rw [eq_of_beq e]⟩
  · rintro ⟨j, hj, e⟩
    exact ⟨j, List.mem_range.mpr hj, beq_iff_eq.mpr (Int.ofNat.inj e).symm⟩
def spIsPickedV (C : Addr) : Sp := fun vs H Q _ => ∃ (x : Addr) (s w k : Nat) (tb ds : List Nat), vs = [.ref x, tv ds] ∧ RuleAt C H x s w k tb ∧ OkG s w k ∧ tb.length = s ^ (w + k - 1) ∧ ds.length ≤ 1000 ∧ Dig s ds ∧
  ∀ H', Same H H' → Q (.bl (pkd s w k tb ds (w - 1))) H'
theorem inV_int {z : Int} : ∀ {ns : List Int}, inV (.int z) (ns.map V.int) = decide (z ∈ ns) := by
  intro ns
  unfold inV
  rw [List.any_map, Bool.eq_iff_iff, List.any_eq_true, decide_eq_true_iff]
  constructor
  · rintro ⟨x, hx, e⟩
    have e2 : (x == z) = true := e
    rw [← eq_of_beq e2]
    exact hx
  · intro h
    refine ⟨z, h, ?_⟩
    show (z == z) = true
    exact beq_self_eq_true _
theorem flat_ints (ns : List Int) : (ns.map V.int).all flatV = true := by
  rw [List.all_map, List.all_eq_true]
  intro z _
  rfl
theorem in_places {s w k : Nat} {tb ds : List Nat} {ns : List Int} (h : Places s w k tb ds ns) (a : Nat) {z : Int} (hz : z = (a : Nat)) : inV (V.int z) (ns.map V.int) = pkd s w k tb ds a := by
  subst hz
  rw [inV_int, Bool.eq_iff_iff, decide_eq_true_iff, h.2, pkd_iff]
end
end WP
namespace WP
open PySem L2
section
variable {K : PySem.W.Frag} {mg : Str → Option Value} {base : Heap} {w : World} {P : Program}
/-! ### the law's own places -/
abbrev nPlaces : List Str := ["_law_drawn", "_law_told", "_law_size", "_law_found", "_law_at", "_law_spot_here"]
def spPlaces : Sp := fun vs H Q _ => ∃ (d p : Addr) (s w k : Nat) (tb ds : List Nat), vs = [.ref d, tv ds] ∧ DrawnAt H d p s w k tb ∧ OkS s w k ∧ tb.length = s ^ (w + k - 1) ∧ ds.length ≤ 1000 ∧ Dig s ds ∧
  ∀ H' t ns, Same H H' → H t = none → H' t = some (.lst (ns.map V.int)) → Places s w k tb ds ns → Q (.ref t) H'
theorem inV_iv {z : Nat} {l : List Nat} : inV (iv z) (l.map iv) = decide (z ∈ l) := by
  have h := inV_int (z := (z : Int)) (ns := l.map fun (n : Nat) => (n : Int))
  rw [List.map_map] at h
  refine Eq.trans h ?_
  rw [Bool.eq_iff_iff, decide_eq_true_iff, decide_eq_true_iff, List.mem_map]
  constructor
  · rintro ⟨y, hy, e⟩
    rw [← Int.ofNat.inj e]
    exact hy
  · intro h
    exact ⟨z, h, rfl⟩
theorem flat_iv (l : List Nat) : (l.map iv).all flatV = true := by
  rw [List.all_map, List.all_eq_true]
  intro z _
  rfl
theorem add_eq {i j z : Int} {Q : VK} {H : Hp} (e : i + j = z) (h : Q (.int z) H) : rI0 (fun a b => V.int (a + b)) (.int i) (.int j) H Q := ⟨i, j, rfl, rfl, by rw [← e] at h; exact h⟩
theorem asc_of_le {ns : List Int} (h : ns.Pairwise (· ≤ ·)) (d : ns.Nodup) : ns.Pairwise (· < ·) := lt_of_le_nodup ns h d
end
end WP
namespace WP
open PySem L2
/-! ### where a text stands among all -/
theorem flat_get {α β : Type} (f : α → List β) (n : Nat) (h : ∀ x, (f x).length = n) : ∀ (l : List α) (q d : Nat) (x : α), l[q]? = some x → d < n → (l.flatMap f)[q * n + d]? = (f x)[d]?
  | [], q, d, x, e, _ => by cases e
  | y :: l, 0, d, x, e, hd => by
    have e2 : y = x := Option.some.inj e
    subst e2
    rw [List.flatMap_cons, Nat.zero_mul, Nat.zero_add, List.getElem?_append_left (by rw [h]; exact hd)]
  | y :: l, q + 1, d, x, e, hd => by
    have e2 : l[q]? = some x := e
    rw [List.flatMap_cons, List.getElem?_append_right (by rw [h, Nat.add_mul]; omega), h]
    have e3 : (q + 1) * n + d - n = q * n + d := by rw [Nat.add_mul]; omega
    rw [e3]
    exact flat_get f n h l q d x e2 hd
theorem allT_num {s : Nat} : ∀ (n : Nat) (ds : List Nat), ds.length = n → Dig s ds → (allT s n)[num s ds]? = some ds
  | 0, ds, h, _ => by
    have e : ds = [] := List.eq_nil_of_length_eq_zero h
    subst e
    rfl
  | n + 1, ds, h, hd => by
    have hne : ds ≠ [] := fun e => by rw [e] at h; cases h
    have e0 := List.dropLast_concat_getLast hne
    have h1 := allT_num n ds.dropLast (by rw [List.length_dropLast, h]; rfl) fun c hc => hd c (List.dropLast_subset ds hc)
    have h2 : ds.getLast hne < s := hd _ (List.getLast_mem hne)
    have e4 : num s ds = num s ds.dropLast * s + ds.getLast hne := by
      conv => lhs; rw [← e0]
      exact num_snoc s _ _
    rw [e4]
    show ((allT s n).flatMap fun t => (List.range s).map fun d => t ++ [d])[_]? = _
    rw [flat_get _ s (fun t => by rw [List.length_map, List.length_range]) _ _ _ _ h1 h2, List.getElem?_map, List.getElem?_range h2]
    exact congrArg some e0
end WP
namespace WP
open PySem L2
/-! ### the text at an index has this index -/
theorem allT_idx {s : Nat} (hs : 0 < s) : ∀ (n i : Nat) (ds : List Nat), (allT s n)[i]? = some ds → num s ds = i
  | 0, i, ds, h => by
    have hi : i = 0 := by
      have := (List.getElem?_eq_some_iff.mp h).1
      have e : (allT s 0).length = 1 := rfl
      omega
    subst hi
    have e : [] = ds := Option.some.inj h
    rw [← e]
    rfl
  | n + 1, i, ds, h => by
    have hl := (List.getElem?_eq_some_iff.mp h).1
    rw [allT_len, Nat.pow_succ] at hl
    have hq : i / s < s ^ n := Nat.div_lt_of_lt_mul (by rw [Nat.mul_comm]; exact hl)
    have hd : i % s < s := Nat.mod_lt _ hs
    have hq2 : i / s < (allT s n).length := by rw [allT_len]; exact hq
    have e1 := List.getElem?_eq_getElem hq2
    generalize (allT s n)[i / s] = t at e1
    have e2 : i = (i / s) * s + i % s := by rw [Nat.mul_comm]; exact (Nat.div_add_mod i s).symm
    have h3 : ((allT s n).flatMap fun t => (List.range s).map fun d => t ++ [d])[i]? = some ds := h
    rw [e2, flat_get _ s (fun t => by rw [List.length_map, List.length_range]) _ _ _ _ e1 hd, List.getElem?_map, List.getElem?_range hd] at h3
    have e3 : t ++ [i % s] = ds := Option.some.inj h3
    rw [← e3, num_snoc, allT_idx hs n _ t e1]
    exact e2.symm
theorem table_back {s n : Nat} {tb : List Nat} (hs : 0 < s) (hl : tb.length = s ^ n) : ((allT s n).map fun ds => tb.getD (num s ds) 0) = tb := by
  refine List.ext_getElem? fun i => ?_
  rw [List.getElem?_map]
  by_cases hi : i < tb.length
  · have h2 : i < (allT s n).length := by rw [allT_len, ← hl]; exact hi
    have e1 := List.getElem?_eq_getElem h2
    generalize (allT s n)[i] = ds at e1
    rw [e1, List.getElem?_eq_getElem hi]
    show some (tb.getD (num s ds) 0) = _
    rw [allT_idx hs n i ds e1, List.getD_eq_getElem?_getD, List.getElem?_eq_getElem hi]
    rfl
  · rw [List.getElem?_eq_none (by rw [allT_len, ← hl]; omega), List.getElem?_eq_none (by omega)]
    rfl
end WP
namespace WP
open PySem L2
/-! ### places amid texts -/
theorem tab_lt {s w k : Nat} {tb ds : List Nat} (ht : Tab s w k tb) (hl : ds.length = w + k - 1) (hd : Dig s ds) : tb.getD (num s ds) 0 < w := by
  have h : num s ds < tb.length := by rw [ht.1]; exact num_lt _ ds hl hd
  rw [List.getD_eq_getElem?_getD, List.getElem?_eq_getElem h]
  exact ht.2 _ (List.getElem_mem h)
theorem win_amid {ds : List Nat} {a n j m : Nat} (h : j + m ≤ n) : (((ds.drop a).take n).drop j).take m = (ds.drop (a + j)).take m := by
  rw [List.drop_take, List.take_take, List.drop_drop, Nat.min_eq_left (by omega)]
theorem pkd_amid {s w k : Nat} {tb ds : List Nat} {a : Nat} (hw : 1 ≤ w) (hk : 1 ≤ k) (ht : Tab s w k tb) (hd : Dig s ds) (ha : a + (2 * w + k - 2) ≤ ds.length) :
    pkd s w k tb ((ds.drop a).take (2 * w + k - 2)) (w - 1) = pkd s w k tb ds (a + w - 1) := by
  have hn : wins w k ((ds.drop a).take (2 * w + k - 2)) = w := by
    unfold wins
    rw [List.length_take, List.length_drop]
    omega
  rw [Bool.eq_iff_iff, pkd_iff, pkd_iff, hn]
  have off : ∀ j, j < w → plc s w k tb ((ds.drop a).take (2 * w + k - 2)) j + a = plc s w k tb ds (a + j) := fun j hj => by
    unfold plc
    rw [win_amid (by omega)]
    omega
  constructor
  · rintro ⟨j, hj, e⟩
    have := off j hj
    exact ⟨a + j, by unfold wins; omega, by omega⟩
  · rintro ⟨j, hj, e⟩
    have h1 : (tb.getD (num s ((ds.drop j).take (w + k - 1))) 0) < w := by
      unfold wins at hj
      obtain ⟨g1, g2⟩ := win_ok (s := s) (n := w + k - 1) (j := j) (ds := ds) (by omega) hd
      exact tab_lt ht g1 g2
    have h2 : plc s w k tb ds j = j + tb.getD (num s ((ds.drop j).take (w + k - 1))) 0 := rfl
    have h3 := off (j - a) (by omega)
    rw [show a + (j - a) = j by omega] at h3
    exact ⟨j - a, by omega, by omega⟩
theorem pow_amid {s w k : Nat} (h : OkS s w k) : s ^ (2 * w + k - 2) ≤ 65536 := by
  obtain ⟨h1, h2, h3, h4, h5, h6⟩ := h
  rw [show 2 * w + k - 2 = (w + k - 1) + (w - 1) by omega, Nat.pow_add]
  have h7 : s ^ (w - 1) ≤ s ^ (w + k - 1) := Nat.pow_le_pow_right (by omega) (by omega)
  exact Nat.mul_le_mul h6 (Nat.le_trans h7 h6)
theorem allT_new {s n i : Nat} {ds : List Nat} (hs : 0 < s) (h : (allT s n)[i]? = some ds) : ds ∉ (allT s n).take i := by
  intro hm
  obtain ⟨j, hj⟩ := List.mem_iff_getElem?.mp hm
  have hji : j < i := by
    have := (List.getElem?_eq_some_iff.mp hj).1
    rw [List.length_take] at this
    omega
  rw [List.getElem?_take_of_lt hji] at hj
  have e1 := allT_idx hs n i ds h
  have e2 := allT_idx hs n j ds hj
  omega
/-- an entry of what is known -/
abbrev ent (s w k : Nat) (tb ds : List Nat) : Key × V := (Sum.inr (tx ds), .bl (pkd s w k tb ds (w - 1)))
theorem valV_ent {s w k : Nat} {tb ds : List Nat} : ∀ {l : List (List Nat)}, ds ∈ l → valV (l.map (ent s w k tb)) (Sum.inr (tx ds)) = some (.bl (pkd s w k tb ds (w - 1))) := by
  intro l h
  unfold valV
  rw [List.find?_map]
  cases e : l.find? ((fun kv : Key × V => decide (kv.1 = Sum.inr (tx ds))) ∘ ent s w k tb) with
  | none =>
    exact absurd (decide_eq_true rfl) (List.find?_eq_none.mp e ds h)
  | some d2 =>
    have h2 := List.find?_some e
    have h3 : (Sum.inr (tx d2) : Key) = Sum.inr (tx ds) := of_decide_eq_true h2
    rw [tx_inj (Sum.inr.inj h3)]
    rfl
theorem put_ent {s w k : Nat} {tb ds : List Nat} {l : List (List Nat)} (h : ds ∉ l) (v : V) : putK (l.map (ent s w k tb)) (Sum.inr (tx ds)) v = l.map (ent s w k tb) ++ [(Sum.inr (tx ds), v)] := by
  unfold putK
  rw [if_neg]
  rw [List.any_map]
  intro z
  obtain ⟨d2, h2, h3⟩ := List.any_eq_true.mp z
  have h4 : (Sum.inr (tx d2) : Key) = Sum.inr (tx ds) := of_decide_eq_true h3
  rw [tx_inj (Sum.inr.inj h4)] at h2
  exact h h2
section
variable {K : PySem.W.Frag} {mg : Str → Option Value} {base : Heap} {w : World} {P : Program}
/-! ### all places amid texts -/
def spKnown : Sp := fun vs H Q _ => ∃ (d p : Addr) (s w k : Nat) (tb : List Nat), vs = [.ref d] ∧ DrawnAt H d p s w k tb ∧ OkS s w k ∧ tb.length = s ^ (w + k - 1) ∧
  ∀ H' m, Same H H' → H m = none → H' m = some (.dK ((allT s (2 * w + k - 2)).map (ent s w k tb))) → Q (.ref m) H'
end
end WP
namespace WP
open PySem L2
section
variable {K : PySem.W.Frag} {mg : Str → Option Value} {base : Heap} {w : World} {P : Program}
theorem atI_any {α : Type} {xs : List α} {z : Int} {j : Nat} {v : α} (e : z = (j : Int)) (h : xs[j]? = some v) : atI xs z = some v := by
  subst e
  exact atI_nat h
/-! ### one of the signs of a text -/
def spPickS : Sp := fun vs H Q _ => ∃ (b : Addr) (z : Str), vs = [.ref b, .str z] ∧ Box H b ∧ 0 < z.length ∧ z.length < 1000000 ∧ ∀ H' (j c : Nat), z.cps[j]? = some c → But b H H' → Box H' b → Q (.str ⟨#[c]⟩) H'
/-! ### a drawn text -/
theorem joinL_ones : ∀ ds : List Nat, TL.joinL [] (ds.map fun d => [97 + d]) = cod ds
  | [] => rfl
  | [_] => rfl
  | d :: e :: r => by
    have h := joinL_ones (e :: r)
    show [97 + d] ++ ([] ++ TL.joinL [] ((e :: r).map fun d => [97 + d])) = _
    rw [h]
    rfl
theorem join_tx (ds : List Nat) : Txt.join "" (ds.map fun d => tx [d]) = tx ds := by
  have h := SX.join_S [] (ds.map fun d => [97 + d])
  rw [joinL_ones, List.map_map] at h
  exact h
theorem sum_ones (ds : List Nat) : ((ds.map fun d => tx [d]).map (·.length)).sum = ds.length := by
  induction ds with
  | nil => rfl
  | cons d r ih =>
    rw [List.map_cons, List.map_cons, List.sum_cons, ih, List.length_cons]
    show 1 + r.length = _
    omega
abbrev nText : List Str := ["_law_box_here", "_law_letters", "_law_many", "_law_turn"]
def spText : Sp := fun vs H Q _ => ∃ (b : Addr) (s n : Nat), vs = [.ref b, .int s, .int n] ∧ Box H b ∧ (s = 2 ∨ s = 3 ∨ s = 4) ∧ n ≤ 1000 ∧ ∀ H' ds, But b H H' → Box H' b → ds.length = n → Dig s ds → Q (tv ds) H'
end
end WP
namespace WP
open PySem L2
def spLaw (K : PySem.W.Frag) : Sp := fun vs H Q _ => ∃ (a : Addr) (ns : List Int), vs = [.ref a] ∧ SqL K H a (ns.map V.int) ∧ ns.length ≤ 63 ∧ ∀ H', Q (.bl true) H'
theorem same_but {H0 H H' : Hp} {b : Addr} (h : Same H0 H) (n : H0 b = none) (e : But b H H') : Same H0 H' := fun c o z => e c o (h c o z) (ne_of_none z n)
theorem ins_ne {a b C dx : Addr} {H : Hp} {fs : List (Str × V)} (hb : Box H b) (h : H a = some (.ins C dx fs)) : a ≠ b := by
  rintro rfl
  obtain ⟨i, j, k, e, _⟩ := hb.ex
  rw [e] at h
  cases h
theorem RuleAt.but {C x b : Addr} {H H' : Hp} {s w k : Nat} {tb : List Nat} (h : RuleAt C H x s w k tb) (hb : Box H b) (e : But b H H') : RuleAt C H' x s w k tb := by
  obtain ⟨dx, t, h1, h2⟩ := h
  exact ⟨dx, t, e _ _ h1 (ins_ne hb h1), e _ _ h2 (tup_ne hb h2)⟩
/-- a rule is there while a dict is locked -/
theorem RuleAt.lock {C x m : Addr} {H : Hp} {s w k : Nat} {tb : List Nat} {kvs : List (Key × V)} {o : HO} (h : RuleAt C H x s w k tb) (hm : H m = some (.dK kvs)) : RuleAt C (upd H m o) x s w k tb := by
  obtain ⟨dx, t, h1, h2⟩ := h
  exact ⟨dx, t, by rw [upd_ne (ne_of h1 hm (by intro z; cases z))]; exact h1, by rw [upd_ne (ne_of h2 hm (by intro z; cases z))]; exact h2⟩
theorem lock_same {m : Addr} {H H' : Hp} {u o : HO} (hm : H m = some u) (s : Same (upd H m o) H') : Same H (upd H' m u) := fun c v e => by
  by_cases h : c = m
  · subst h
    rw [upd_same, ← hm]
    exact e
  · rw [upd_ne h]
    exact s c v (by rw [upd_ne h]; exact e)
end WP

set_option Elab.async false
set_option linter.all false
set_option maxRecDepth 100000
set_option maxHeartbeats 1200000
namespace DL
open PySem L2 WP
/-! ### data, where they stand -/
inductive D where
  | non | bl (b : Bool) | int (i : Int) | str (z : Str)
  | lst (xs : List D) | tup (xs : List D)
  | rul (s w k : Nat) (tb : List Nat)
  | dct (ks : List Key) (vs : List D)
  | scr (ns : List Int)
  | cls
section
variable (K : PySem.W.Frag) (C : Addr)
mutual
def At (H : Hp) : D → V → Prop
  | .non, v => v = .non
  | .bl b, v => v = .bl b
  | .int i, v => v = .int i
  | .str z, v => v = .str z
  | .lst ds, v => ∃ a vs, v = .ref a ∧ H a = some (.lst vs) ∧ AtL H ds vs
  | .tup ds, v => ∃ a vs, v = .ref a ∧ H a = some (.tup vs) ∧ AtL H ds vs
  | .rul s w k tb, v => ∃ x, v = .ref x ∧ RuleAt C H x s w k tb
  | .dct ks ds, v => ∃ a vs, v = .ref a ∧ H a = some (.dK (ks.zip vs)) ∧ ks.length = vs.length ∧ AtL H ds vs
  | .scr ns, v => ∃ a, v = .ref a ∧ SqL K H a (ns.map V.int)
  | .cls, v => v = .ref C
def AtL (H : Hp) : List D → List V → Prop
  | [], vs => vs = []
  | d :: ds, vs => ∃ v r, vs = v :: r ∧ At H d v ∧ AtL H ds r
end
end
section
variable {K : PySem.W.Frag} {C : Addr} {H H' : Hp}
mutual
theorem At.mono (e : Same H H') : ∀ {d : D} {v : V}, At K C H d v → At K C H' d v
  | .non, _, h => h
  | .bl _, _, h => h
  | .int _, _, h => h
  | .str _, _, h => h
  | .lst ds, _, ⟨a, vs, h1, h2, h3⟩ => ⟨a, vs, h1, e _ _ h2, AtL.mono e h3⟩
  | .tup ds, _, ⟨a, vs, h1, h2, h3⟩ => ⟨a, vs, h1, e _ _ h2, AtL.mono e h3⟩
  | .rul _ _ _ _, _, ⟨x, h1, h2⟩ => ⟨x, h1, h2.same e⟩
  | .dct _ ds, _, ⟨a, vs, h1, h2, h3, h4⟩ => ⟨a, vs, h1, e _ _ h2, h3, AtL.mono e h4⟩
  | .scr _, _, ⟨a, h1, h2⟩ => ⟨a, h1, e.seq h2⟩
  | .cls, _, h => h
theorem AtL.mono (e : Same H H') : ∀ {ds : List D} {vs : List V}, AtL K C H ds vs → AtL K C H' ds vs
  | [], _, h => h
  | _ :: _, _, ⟨v, r, h1, h2, h3⟩ => ⟨v, r, h1, At.mono e h2, AtL.mono e h3⟩
end
theorem AtL.len : ∀ {ds : List D} {vs : List V}, AtL K C H ds vs → vs.length = ds.length
  | [], _, h => by
    have h : _ = [] := h
    rw [h]
    rfl
  | _ :: _, _, ⟨v, r, h1, _, h3⟩ => by rw [h1, List.length_cons, List.length_cons, AtL.len h3]
theorem AtL.get : ∀ {ds : List D} {vs : List V} {i : Nat} {d : D}, AtL K C H ds vs → ds[i]? = some d → ∃ v, vs[i]? = some v ∧ At K C H d v
  | [], _, _, _, _, e => by cases e
  | _ :: _, _, 0, _, ⟨v, r, h1, h2, _⟩, e => by
    cases e
    exact ⟨v, by rw [h1]; rfl, h2⟩
  | _ :: _, _, i + 1, _, ⟨v, r, h1, _, h3⟩, e => by
    obtain ⟨u, hu, hd⟩ := AtL.get (i := i) h3 e
    exact ⟨u, by rw [h1]; exact hu, hd⟩
theorem AtL.at : ∀ {ds : List D} {vs : List V} {i : Nat} {v : V}, AtL K C H ds vs → vs[i]? = some v → ∃ d, ds[i]? = some d ∧ At K C H d v
  | [], _, _, _, h, e => by
    have h : _ = [] := h
    rw [h] at e
    cases e
  | _ :: _, _, 0, _, ⟨v, r, h1, h2, _⟩, e => by
    rw [h1] at e
    cases e
    exact ⟨_, rfl, h2⟩
  | _ :: _, _, i + 1, _, ⟨v, r, h1, _, h3⟩, e => by
    rw [h1] at e
    exact AtL.at (i := i) h3 e
theorem AtL.app : ∀ {ds es : List D} {vs us : List V}, AtL K C H ds vs → AtL K C H es us → AtL K C H (ds ++ es) (vs ++ us)
  | [], _, _, _, h, g => by
    have h : _ = [] := h
    rw [h]
    exact g
  | _ :: _, _, _, _, ⟨v, r, h1, h2, h3⟩, g => ⟨v, r ++ _, by rw [h1]; rfl, h2, AtL.app h3 g⟩
theorem AtL.one {d : D} {v : V} (h : At K C H d v) : AtL K C H [d] [v] := ⟨v, [], rfl, h, rfl⟩
theorem AtL.take : ∀ {ds : List D} {vs : List V} (n : Nat), AtL K C H ds vs → AtL K C H (ds.take n) (vs.take n)
  | [], _, n, h => by
    have h : _ = [] := h
    rw [h, List.take_nil, List.take_nil]
    rfl
  | _ :: _, _, 0, _ => by
    rw [List.take_zero, List.take_zero]
    rfl
  | _ :: _, _, n + 1, ⟨v, r, h1, h2, h3⟩ => ⟨v, r.take n, by rw [h1]; rfl, h2, AtL.take n h3⟩
theorem AtL.drop : ∀ {ds : List D} {vs : List V} (n : Nat), AtL K C H ds vs → AtL K C H (ds.drop n) (vs.drop n)
  | [], _, n, h => by
    have h : _ = [] := h
    rw [h, List.drop_nil, List.drop_nil]
    rfl
  | _ :: _, _, 0, h => h
  | _ :: _, _, n + 1, ⟨v, r, h1, h2, h3⟩ => by
    rw [h1]
    exact AtL.drop n h3
/-- lists of one sort -/
theorem AtL.map_iff {α : Type} {f : α → D} {g : α → V} (h : ∀ x v, At K C H (f x) v ↔ v = g x) : ∀ {l : List α} {vs : List V}, AtL K C H (l.map f) vs ↔ vs = l.map g
  | [], vs => Iff.rfl
  | x :: l, vs => by
    constructor
    · rintro ⟨v, r, h1, h2, h3⟩
      rw [h1, (h x v).mp h2, (AtL.map_iff h).mp h3]
      rfl
    · intro e
      exact ⟨g x, l.map g, e, (h x _).mpr rfl, (AtL.map_iff h).mpr rfl⟩
theorem at_int {i : Int} {v : V} : At K C H (.int i) v ↔ v = .int i := Iff.rfl
theorem at_str {z : Str} {v : V} : At K C H (.str z) v ↔ v = .str z := Iff.rfl
theorem at_bl {b : Bool} {v : V} : At K C H (.bl b) v ↔ v = .bl b := Iff.rfl
theorem AtL.ints {ns : List Int} {vs : List V} : AtL K C H (ns.map D.int) vs ↔ vs = ns.map V.int := AtL.map_iff fun _ _ => at_int
end
/-! ### a state: slots, own cells -/
inductive Sl where
  | any | val (d : D) | ptr (n : Nat)
inductive Cell where
  | lst (xs : List D) | box | dct (ks : List Key) (vs : List D)
structure Sta where
  g : List Sl
  o : List Cell
/-- slot i holds r from now on -/
def Sta.up (S : Sta) (i : Nat) (r : Sl) : Sta := ⟨S.g.set i r, S.o⟩
/-- cell n is c from now on -/
def Sta.cell (S : Sta) (n : Nat) (c : Cell) : Sta := ⟨S.g, S.o.set n c⟩
/-- one cell more -/
def Sta.more (S : Sta) (c : Cell) : Sta := ⟨S.g, S.o ++ [c]⟩
section
variable (K : PySem.W.Frag) (C : Addr)
def CellAt (Hf H : Hp) (p : Addr) : Cell → Prop
  | .lst xs => ∃ vs, H p = some (.lst vs) ∧ AtL K C Hf xs vs
  | .box => Box H p
  | .dct ks xs => ∃ vs, H p = some (.dK (ks.zip vs)) ∧ ks.length = vs.length ∧ AtL K C Hf xs vs
def SlAt (ps : List Addr) (Hf : Hp) : Sl → V → Prop
  | .any, _ => True
  | .val d, v => At K C Hf d v
  | .ptr n, v => ∃ p, v = .ref p ∧ ps[n]? = some p
/-- Z: what others own; Hf: what never changes; H: all -/
structure Ok (Z : Hp) (S : Sta) (ps : List Addr) (σ : L2.St) (Hf H : Hp) : Prop where
  sub : Same Hf H
  len : σ.length = S.g.length
  slot : ∀ (i : Nat) (r : Sl), S.g[i]? = some r → r ≠ .any → ∃ v, σ[i]? = some (some v) ∧ SlAt K C ps Hf r v
  plen : ps.length = S.o.length
  cell : ∀ (n : Nat) (c : Cell) (p : Addr), S.o[n]? = some c → ps[n]? = some p → CellAt K C Hf H p c
  free : ∀ p ∈ ps, Hf p = none
  nd : ps.Nodup
  far : ∀ a o, Z a = some o → H a = some o ∧ Hf a = none ∧ a ∉ ps
end
section
variable {K : PySem.W.Frag} {C : Addr} {Z Hf Hf' H H' : Hp} {S S' : Sta} {ps ps' : List Addr} {σ σ' : L2.St}
theorem SlAt.mono {r : Sl} {v : V} (h : SlAt K C ps Hf r v) (e : Same Hf Hf') (p : ps <+: ps') : SlAt K C ps' Hf' r v := by
  cases r with
  | any => trivial
  | val d => exact At.mono e h
  | ptr n =>
    obtain ⟨q, h1, h2⟩ := h
    obtain ⟨t, rfl⟩ := p
    exact ⟨q, h1, by rw [List.getElem?_append_left (List.getElem?_eq_some_iff.mp h2).1]; exact h2⟩
theorem CellAt.mono {c : Cell} {p : Addr} (h : CellAt K C Hf H p c) (e : Same Hf Hf') (e2 : ∀ o, H p = some o → H' p = some o) : CellAt K C Hf' H' p c := by
  cases c with
  | lst xs =>
    obtain ⟨vs, h1, h2⟩ := h
    exact ⟨vs, e2 _ h1, h2.mono e⟩
  | box =>
    obtain ⟨i, j, k, h1, h2⟩ := Box.ex h
    exact ⟨⟨i, j, k, e2 _ h1, h2⟩⟩
  | dct ks xs =>
    obtain ⟨vs, h1, h2, h3⟩ := h
    exact ⟨vs, e2 _ h1, h2, h3.mono e⟩
theorem CellAt.some {c : Cell} {p : Addr} (h : CellAt K C Hf H p c) : ∃ o, H p = some o := by
  cases c with
  | lst xs => obtain ⟨vs, h1, _⟩ := h; exact ⟨_, h1⟩
  | box => obtain ⟨i, j, k, h1, _⟩ := Box.ex h; exact ⟨_, h1⟩
  | dct ks xs => obtain ⟨vs, h1, _⟩ := h; exact ⟨_, h1⟩
theorem Ok.get (h : Ok K C Z S ps σ Hf H) {n : Nat} {c : Cell} (e : S.o[n]? = some c) : ∃ p, ps[n]? = some p ∧ CellAt K C Hf H p c := by
  have l : n < ps.length := by rw [h.plen]; exact (List.getElem?_eq_some_iff.mp e).1
  exact ⟨ps[n], List.getElem?_eq_getElem l, h.cell n c _ e (List.getElem?_eq_getElem l)⟩
/-- the heap grows by unknown things that are known from now on -/
theorem Ok.grow (h : Ok K C Z S ps σ Hf H) (e1 : Same Hf Hf') (e2 : Same H H') (e3 : Same Hf' H') (fr : ∀ a, H a ≠ none → Hf a = none → Hf' a = none) : Ok K C Z S ps σ Hf' H' where
  sub := e3
  len := h.len
  slot := fun i r a b => by
    obtain ⟨v, h1, h2⟩ := h.slot i r a b
    exact ⟨v, h1, h2.mono e1 (List.prefix_refl _)⟩
  plen := h.plen
  cell := fun n c p a b => (h.cell n c p a b).mono e1 fun o q => e2 _ _ q
  free := fun p hp => by
    obtain ⟨n, hn, hn2⟩ := List.getElem_of_mem hp
    obtain ⟨q, h1, h2⟩ := h.get (n := n) (c := S.o[n]'(by rw [← h.plen]; exact hn)) (List.getElem?_eq_getElem _)
    rw [List.getElem?_eq_getElem hn, hn2] at h1
    cases h1
    obtain ⟨o, ho⟩ := h2.some
    exact fr p (by rw [ho]; exact fun z => nomatch z) (h.free p hp)
  nd := h.nd
  far := fun a o q => by
    obtain ⟨h1, h2, h3⟩ := h.far a o q
    exact ⟨e2 _ _ h1, fr a (by rw [h1]; exact fun z => nomatch z) h2, h3⟩
theorem same_of_none {p : Addr} {o : HO} (n : H p = none) : Same H (upd H p o) := same_upd n
theorem same_upd2 {p : Addr} {o : HO} (e : Same Hf H) (n : Hf p = none) : Same Hf (upd H p o) := fun b x q => by
  rw [upd_ne (ne_of_none q n)]
  exact e b x q
theorem same_both {p : Addr} {o : HO} (e : Same Hf H) : Same (upd Hf p o) (upd H p o) := fun b x q => by
  by_cases h : b = p
  · subst h
    rw [upd_same] at q ⊢
    exact q
  · rw [upd_ne h] at q ⊢
    exact e b x q
/-- a new thing that never changes -/
theorem Ok.new (h : Ok K C Z S ps σ Hf H) {p : Addr} (n : H p = none) (o : HO) : Ok K C Z S ps σ (upd Hf p o) (upd H p o) :=
  h.grow (same_upd (h.sub.free n)) (same_upd n) (same_both h.sub) fun a x y => by
    have ne : a ≠ p := fun z => x (by rw [z]; exact n)
    rw [upd_ne ne]
    exact y
/-- a new thing of one's own -/
theorem Ok.push (h : Ok K C Z S ps σ Hf H) {p : Addr} (n : H p = none) {o : HO} {c : Cell} (hc : CellAt K C Hf (upd H p o) p c) : Ok K C Z ⟨S.g, S.o ++ [c]⟩ (ps ++ [p]) σ Hf (upd H p o) where
  sub := same_upd2 h.sub (h.sub.free n)
  len := h.len
  slot := fun i r a b => by
    obtain ⟨v, h1, h2⟩ := h.slot i r a b
    exact ⟨v, h1, h2.mono (Same.refl _) (List.prefix_append _ _)⟩
  plen := by rw [List.length_append, List.length_append, h.plen]; rfl
  cell := fun m d q a b => by
    by_cases hm : m < ps.length
    · rw [List.getElem?_append_left hm] at b
      rw [List.getElem?_append_left (by rw [← h.plen]; exact hm)] at a
      have hq := h.cell m d q a b
      refine hq.mono (Same.refl _) fun o ho => ?_
      rw [upd_ne (ne_of_none ho n)]
      exact ho
    · have e1 : m = ps.length := by
        have := (List.getElem?_eq_some_iff.mp b).1
        rw [List.length_append] at this
        have e : [p].length = 1 := rfl
        omega
      subst e1
      rw [List.getElem?_append_right (Nat.le_refl _), Nat.sub_self] at b
      rw [List.getElem?_append_right (by rw [h.plen]; exact Nat.le_refl _), h.plen, Nat.sub_self] at a
      cases a
      cases b
      exact hc
  free := fun q hq => by
    rcases List.mem_append.mp hq with hq | hq
    · exact h.free q hq
    · rw [List.mem_singleton.mp hq]
      exact h.sub.free n
  nd := by
    refine List.nodup_append.mpr ⟨h.nd, List.pairwise_singleton .., fun a ha b hb e => ?_⟩
    rw [List.mem_singleton] at hb
    subst hb e
    obtain ⟨m, hm, e⟩ := List.getElem_of_mem ha
    have hm2 : m < S.o.length := by rw [← h.plen]; exact hm
    obtain ⟨o, ho⟩ := (h.cell m S.o[m] a (List.getElem?_eq_getElem hm2) (by rw [List.getElem?_eq_getElem hm, e])).some
    rw [n] at ho
    cases ho
  far := fun a x q => by
    obtain ⟨h1, h2, h3⟩ := h.far a x q
    refine ⟨by rw [upd_ne (ne_of_none h1 n)]; exact h1, h2, fun z => ?_⟩
    rcases List.mem_append.mp z with z | z
    · exact h3 z
    · rw [List.mem_singleton.mp z, n] at h1
      cases h1
/-- a cell of one's own is changed -/
theorem Ok.put (h : Ok K C Z S ps σ Hf H) {p : Addr} {m : Nat} (hp : ps[m]? = some p) {o : HO} {c : Cell} (hc : CellAt K C Hf (upd H p o) p c) : Ok K C Z ⟨S.g, S.o.set m c⟩ ps σ Hf (upd H p o) where
  sub := same_upd2 h.sub (h.free p (List.mem_of_getElem? hp))
  len := h.len
  slot := h.slot
  plen := by rw [h.plen, List.length_set]
  cell := fun i d q a b => by
    by_cases e : m = i
    · subst e
      rw [hp] at b
      cases b
      have l : m < S.o.length := by
        have := (List.getElem?_eq_some_iff.mp a).1
        rw [List.length_set] at this
        exact this
      rw [List.getElem?_set_self l] at a
      cases a
      exact hc
    · rw [List.getElem?_set_ne e] at a
      have hq := h.cell i d q a b
      refine hq.mono (Same.refl _) fun x hx => ?_
      have ne : q ≠ p := fun z => by
        subst z
        have l1 := (List.getElem?_eq_some_iff.mp hp)
        have l2 := (List.getElem?_eq_some_iff.mp b)
        exact e ((List.getElem_inj h.nd).mp (l1.2.trans l2.2.symm))
      rw [upd_ne ne]
      exact hx
  free := h.free
  nd := h.nd
  far := fun a x q => by
    obtain ⟨h1, h2, h3⟩ := h.far a x q
    have ne : a ≠ p := fun z => h3 (by rw [z]; exact List.mem_of_getElem? hp)
    exact ⟨by rw [upd_ne ne]; exact h1, h2, h3⟩
/-- the last cell becomes a thing that never changes -/
theorem Ok.freeze {g : List Sl} {o : List Cell} {c : Cell} {p : Addr} {x : HO} (h : Ok K C Z ⟨g, o ++ [c]⟩ (ps ++ [p]) σ Hf H) (hx : H p = some x) (hg : ∀ (i n : Nat), g[i]? = some (Sl.ptr n) → n < o.length) : Ok K C Z ⟨g, o⟩ ps σ (upd Hf p x) H := by
  have pl : ps.length = o.length := by
    have := h.plen
    rw [List.length_append, List.length_append] at this
    exact Nat.add_right_cancel this
  have np : Hf p = none := h.free p (List.mem_append_right _ (List.mem_singleton.mpr rfl))
  have nd := List.nodup_append.mp h.nd
  exact {
    sub := fun b u q => by
      by_cases e : b = p
      · subst e
        rw [upd_same] at q
        rw [← q]
        exact hx
      · rw [upd_ne e] at q
        exact h.sub b u q
    len := h.len
    slot := fun i r a b => by
      obtain ⟨v, h1, h2⟩ := h.slot i r a b
      refine ⟨v, h1, ?_⟩
      cases r with
      | any => trivial
      | val d => exact At.mono (same_upd np) h2
      | ptr n =>
        obtain ⟨q, h3, h4⟩ := h2
        have := hg i n a
        rw [List.getElem?_append_left (by rw [pl]; exact this)] at h4
        exact ⟨q, h3, h4⟩
    plen := pl
    cell := fun n d q a b => by
      have l1 := (List.getElem?_eq_some_iff.mp a).1
      have := h.cell n d q (by show (o ++ [c])[n]? = _; rw [List.getElem?_append_left l1]; exact a) (by rw [List.getElem?_append_left (by rw [pl]; exact l1)]; exact b)
      exact this.mono (same_upd np) fun _ z => z
    free := fun q hq => by
      have ne : q ≠ p := fun z => nd.2.2 q hq p (List.mem_singleton.mpr rfl) z
      rw [upd_ne ne]
      exact h.free q (List.mem_append_left _ hq)
    nd := nd.1
    far := fun a y q => by
      obtain ⟨h1, h2, h3⟩ := h.far a y q
      have ne : a ≠ p := fun z => h3 (by rw [z]; exact List.mem_append_right _ (List.mem_singleton.mpr rfl))
      exact ⟨h1, by rw [upd_ne ne]; exact h2, fun z => h3 (List.mem_append_left _ z)⟩ }
/-- a slot is stored -/
theorem Ok.set (h : Ok K C Z S ps σ Hf H) {i : Nat} {r : Sl} {v : V} (hv : SlAt K C ps Hf r v) : Ok K C Z ⟨S.g.set i r, S.o⟩ ps (σ.set i (some v)) Hf H where
  sub := h.sub
  len := by rw [List.length_set, List.length_set, h.len]
  slot := fun j q a b => by
    by_cases e : i = j
    · subst e
      have l : i < S.g.length := by
        have := (List.getElem?_eq_some_iff.mp a).1
        rw [List.length_set] at this
        exact this
      rw [List.getElem?_set_self l] at a
      cases a
      exact ⟨v, by rw [List.getElem?_set_self (by rw [h.len]; exact l)], hv⟩
    · rw [List.getElem?_set_ne e] at a
      obtain ⟨u, h1, h2⟩ := h.slot j q a b
      exact ⟨u, by rw [List.getElem?_set_ne e]; exact h1, h2⟩
  plen := h.plen
  cell := h.cell
  free := h.free
  nd := h.nd
  far := h.far
theorem Ok.unset (h : Ok K C Z S ps σ Hf H) (i : Nat) (x : Option V) : Ok K C Z ⟨S.g.set i .any, S.o⟩ ps (σ.set i x) Hf H where
  sub := h.sub
  len := by rw [List.length_set, List.length_set, h.len]
  slot := fun j q a b => by
    by_cases e : i = j
    · subst e
      have l : i < S.g.length := by
        have := (List.getElem?_eq_some_iff.mp a).1
        rw [List.length_set] at this
        exact this
      rw [List.getElem?_set_self l] at a
      cases a
      exact absurd rfl b
    · rw [List.getElem?_set_ne e] at a
      obtain ⟨u, h1, h2⟩ := h.slot j q a b
      exact ⟨u, by rw [List.getElem?_set_ne e]; exact h1, h2⟩
  plen := h.plen
  cell := h.cell
  free := h.free
  nd := h.nd
  far := h.far
/-- slots and the last cells are forgotten -/
inductive WkG : Nat → List Sl → List Sl → Prop
  | nil {m : Nat} : WkG m [] []
  | val {m : Nat} {d : D} {g g' : List Sl} : WkG m g g' → WkG m (.val d :: g) (.val d :: g')
  | ptr {m n : Nat} {g g' : List Sl} : n < m → WkG m g g' → WkG m (.ptr n :: g) (.ptr n :: g')
  | any {m : Nat} {r : Sl} {g g' : List Sl} : WkG m g g' → WkG m (r :: g) (.any :: g')
theorem WkG.len {m : Nat} {g g' : List Sl} (h : WkG m g g') : g.length = g'.length := by
  induction h with
  | nil => rfl
  | val _ ih => rw [List.length_cons, List.length_cons, ih]
  | ptr _ _ ih => rw [List.length_cons, List.length_cons, ih]
  | any _ ih => rw [List.length_cons, List.length_cons, ih]
theorem WkG.get {m : Nat} {g g' : List Sl} (h : WkG m g g') : ∀ {i : Nat} {r : Sl}, g'[i]? = some r → r = .any ∨ (g[i]? = some r ∧ ∀ n, r = .ptr n → n < m) := by
  induction h with
  | nil => intro i r e; cases e
  | val _ ih =>
    intro i r e
    cases i with
    | zero => cases e; exact .inr ⟨rfl, fun n z => by cases z⟩
    | succ i => exact ih e
  | ptr hn _ ih =>
    intro i r e
    cases i with
    | zero => cases e; exact .inr ⟨rfl, fun n z => by cases z; exact hn⟩
    | succ i => exact ih e
  | any _ ih =>
    intro i r e
    cases i with
    | zero => cases e; exact .inl rfl
    | succ i => exact ih e
theorem Ok.weak {g g' : List Sl} {o o' : List Cell} (h : Ok K C Z ⟨g, o ++ o'⟩ ps σ Hf H) (w : WkG o.length g g') : Ok K C Z ⟨g', o⟩ (ps.take o.length) σ Hf H where
  sub := h.sub
  len := h.len.trans w.len
  slot := fun i r a b => by
    rcases w.get a with e | ⟨e, hp⟩
    · exact absurd e b
    · obtain ⟨v, h1, h2⟩ := h.slot i r e b
      refine ⟨v, h1, ?_⟩
      cases r with
      | any => trivial
      | val d => exact h2
      | ptr n =>
        obtain ⟨q, h3, h4⟩ := h2
        exact ⟨q, h3, by rw [List.getElem?_take_of_lt (hp n rfl)]; exact h4⟩
  plen := by
    have := h.plen
    rw [List.length_append] at this
    rw [List.length_take]
    exact Nat.min_eq_left (by omega)
  cell := fun n c p a b => by
    have l := (List.getElem?_eq_some_iff.mp a).1
    rw [List.getElem?_take_of_lt l] at b
    exact h.cell n c p (by show (o ++ o')[n]? = _; rw [List.getElem?_append_left l]; exact a) b
  free := fun p hp => h.free p (List.mem_of_mem_take hp)
  nd := h.nd.sublist (List.take_sublist _ _)
  far := fun a x q => by
    obtain ⟨h1, h2, h3⟩ := h.far a x q
    exact ⟨h1, h2, fun z => h3 (List.mem_of_mem_take z)⟩
end
end DL

set_option Elab.async false
set_option linter.all false
set_option maxRecDepth 100000
set_option maxHeartbeats 1200000
namespace DL
open PySem L2 WP
def SlsAt (K : PySem.W.Frag) (C : Addr) (ps : List Addr) (Hf : Hp) : List Sl → List V → Prop
  | [], vs => vs = []
  | r :: rs, vs => ∃ v us, vs = v :: us ∧ SlAt K C ps Hf r v ∧ SlsAt K C ps Hf rs us
theorem SlsAt.mono {K : PySem.W.Frag} {C : Addr} {ps ps' : List Addr} {Hf Hf' : Hp} (e : Same Hf Hf') (p : ps <+: ps') : ∀ {rs : List Sl} {vs : List V}, SlsAt K C ps Hf rs vs → SlsAt K C ps' Hf' rs vs
  | [], _, h => h
  | _ :: _, _, ⟨v, us, h1, h2, h3⟩ => ⟨v, us, h1, h2.mono e p, SlsAt.mono e p h3⟩
abbrev KE := Sl → Sta → Prop
/-! ### readings, over data -/
section
variable (K : PySem.W.Frag) (C : Addr)
def RdE (t : TE) (S : Sta) (Kn : KE) : Prop := ∀ (Z : Hp) (ps : List Addr) (σ : L2.St) (Hf H : Hp) (Q : VK), Ok K C Z S ps σ Hf H →
  (∀ r S' ps' Hf' H' v, Kn r S' → Same Hf Hf' → ps <+: ps' → Ok K C Z S' ps' σ Hf' H' → SlAt K C ps' Hf' r v → Q v H') → t σ H Q
def RdT (t : TT) (S : Sta) (Kn : Bool → Sta → Prop) : Prop := ∀ (Z : Hp) (ps : List Addr) (σ : L2.St) (Hf H : Hp) (Q : Bool → Hp → Prop), Ok K C Z S ps σ Hf H →
  (∀ b S' ps' Hf' H', Kn b S' → Same Hf Hf' → ps <+: ps' → Ok K C Z S' ps' σ Hf' H' → Q b H') → t σ H Q
def RdA (t : TA) (S : Sta) (Kn : List Sl → Sta → Prop) : Prop := ∀ (Z : Hp) (ps : List Addr) (σ : L2.St) (Hf H : Hp) (Q : List V → Hp → Prop), Ok K C Z S ps σ Hf H →
  (∀ rs S' ps' Hf' H' vs, Kn rs S' → Same Hf Hf' → ps <+: ps' → Ok K C Z S' ps' σ Hf' H' → SlsAt K C ps' Hf' rs vs → Q vs H') → t σ H Q
/-- what is done with values: one, two, a list of them -/
def RcD (r : List V → Hp → VK → Prop) (as : List Sl) (S : Sta) (Kn : KE) : Prop := ∀ (Z : Hp) (ps : List Addr) (σ : L2.St) (Hf H : Hp) (Q : VK) (vs : List V), Ok K C Z S ps σ Hf H → SlsAt K C ps Hf as vs →
  (∀ r S' ps' Hf' H' v, Kn r S' → Same Hf Hf' → ps <+: ps' → Ok K C Z S' ps' σ Hf' H' → SlAt K C ps' Hf' r v → Q v H') → r vs H Q
def R2D (r : R2) (a b : Sl) (S : Sta) (Kn : KE) : Prop := ∀ (Z : Hp) (ps : List Addr) (σ : L2.St) (Hf H : Hp) (Q : VK) (x y : V), Ok K C Z S ps σ Hf H → SlAt K C ps Hf a x → SlAt K C ps Hf b y →
  (∀ r S' ps' Hf' H' v, Kn r S' → Same Hf Hf' → ps <+: ps' → Ok K C Z S' ps' σ Hf' H' → SlAt K C ps' Hf' r v → Q v H') → r x y H Q
structure Ed where
  nx : Sta → Prop
  rt : KE := fun _ _ => False
  bk : Sta → Prop := fun _ => False
  ct : Sta → Prop := fun _ => False
/-- the first m cells stay at their places -/
def Kp (m : Nat) (ps ps' : List Addr) : Prop := ∀ (n : Nat) (p : Addr), n < m → ps[n]? = some p → ps'[n]? = some p
def RdS (m : Nat) (t : TS) (S : Sta) (E : Ed) : Prop := ∀ (Z : Hp) (ps : List Addr) (σ : L2.St) (Hf H : Hp) (D : Ends), Ok K C Z S ps σ Hf H →
  (∀ S' ps' σ' Hf' H', E.nx S' → Same Hf Hf' → Kp m ps ps' → Ok K C Z S' ps' σ' Hf' H' → D.nx σ' H') →
  (∀ r S' ps' σ' Hf' H' v, E.rt r S' → Same Hf Hf' → Kp m ps ps' → Ok K C Z S' ps' σ' Hf' H' → SlAt K C ps' Hf' r v → D.rt v H') →
  (∀ S' ps' σ' Hf' H', E.bk S' → Same Hf Hf' → Kp m ps ps' → Ok K C Z S' ps' σ' Hf' H' → D.bk σ' H') →
  (∀ S' ps' σ' Hf' H', E.ct S' → Same Hf Hf' → Kp m ps ps' → Ok K C Z S' ps' σ' Hf' H' → D.ct σ' H') → t D σ H
end
section
variable {K : PySem.W.Frag} {C : Addr} {S : Sta} {Kn : KE} {ta tb te : TE} {tt : TT} {r r' : R2}
theorem Kp.of {m : Nat} {ps ps' : List Addr} (h : ps <+: ps') : Kp m ps ps' := fun n p _ e => by
  obtain ⟨t, rfl⟩ := h
  rw [List.getElem?_append_left (List.getElem?_eq_some_iff.mp e).1]
  exact e
theorem Kp.refl (m : Nat) (ps : List Addr) : Kp m ps ps := fun _ _ _ e => e
theorem Kp.trans {m : Nat} {ps p1 p2 : List Addr} (a : Kp m ps p1) (b : Kp m p1 p2) : Kp m ps p2 := fun n p h e => b n p h (a n p h e)
theorem Kp.mono {m k : Nat} {ps p1 : List Addr} (a : Kp m ps p1) (h : k ≤ m) : Kp k ps p1 := fun n p hn e => a n p (Nat.lt_of_lt_of_le hn h) e
theorem prefix_refl {α : Type} (l : List α) : l <+: l := List.prefix_refl l
/-! ### expressions -/
theorem rd_var {i : Nat} {x : Sl} (h : S.g[i]? = some x) (hx : x ≠ .any) (k : Kn x S) : RdE K C (tVar i) S Kn := by
  intro Z ps σ Hf H Q ok q
  obtain ⟨v, h1, h2⟩ := ok.slot i x h hx
  exact ⟨v, h1, q x S ps Hf H v k (Same.refl _) (prefix_refl _) ok h2⟩
theorem rd_val {i : Nat} {d : D} (h : S.g[i]? = some (.val d)) (k : Kn (.val d) S) : RdE K C (tVar i) S Kn := rd_var h (fun e => by cases e) k
theorem rd_ptr {i n : Nat} (h : S.g[i]? = some (.ptr n)) (k : Kn (.ptr n) S) : RdE K C (tVar i) S Kn := rd_var h (fun e => by cases e) k
theorem rd_k {d : D} {v : V} (hd : ∀ Hf, At K C Hf d v) (k : Kn (.val d) S) : RdE K C (tC v) S Kn := fun Z ps σ Hf H Q ok q => q _ S ps Hf H v k (Same.refl _) (prefix_refl _) ok (hd Hf)
theorem rd_int {i : Int} (k : Kn (.val (.int i)) S) : RdE K C (tC (.int i)) S Kn := rd_k (d := .int i) (fun _ => rfl) k
theorem rd_str {z : Str} (k : Kn (.val (.str z)) S) : RdE K C (tC (.str z)) S Kn := rd_k (d := .str z) (fun _ => rfl) k
theorem rd_bl {b : Bool} (k : Kn (.val (.bl b)) S) : RdE K C (tC (.bl b)) S Kn := rd_k (d := .bl b) (fun _ => rfl) k
theorem rd_non (k : Kn (.val .non) S) : RdE K C (tC .non) S Kn := rd_k (d := .non) (fun _ => rfl) k
theorem rd_op (h : RdE K C ta S fun a S1 => RdE K C tb S1 fun b S2 => R2D K C r a b S2 Kn) : RdE K C (tOp r ta tb) S Kn := by
  intro Z ps σ Hf H Q ok q
  refine h Z ps σ Hf H _ ok fun a S1 ps1 Hf1 H1 x k1 e1 p1 ok1 ax => ?_
  refine k1 Z ps1 σ Hf1 H1 _ ok1 fun b S2 ps2 Hf2 H2 y k2 e2 p2 ok2 bx => ?_
  exact k2 Z ps2 σ Hf2 H2 Q x y ok2 (ax.mono e2 p2) bx fun r S' ps' Hf' H' v kk e p ok' av => q r S' ps' Hf' H' v kk (e1.trans (e2.trans e)) (p1.trans (p2.trans p)) ok' av
theorem rd_nil {Kn : List Sl → Sta → Prop} (k : Kn [] S) : RdA K C tNil S Kn := fun Z ps σ Hf H Q ok q => q [] S ps Hf H [] k (Same.refl _) (prefix_refl _) ok rfl
theorem rd_cons {Kn : List Sl → Sta → Prop} {tr : TA} (h : RdE K C ta S fun a S1 => RdA K C tr S1 fun rs S2 => Kn (a :: rs) S2) : RdA K C (tCons ta tr) S Kn := by
  intro Z ps σ Hf H Q ok q
  refine h Z ps σ Hf H _ ok fun a S1 ps1 Hf1 H1 x k1 e1 p1 ok1 ax => ?_
  refine k1 Z ps1 σ Hf1 H1 _ ok1 fun rs S2 ps2 Hf2 H2 vs k2 e2 p2 ok2 bx => ?_
  exact q (a :: rs) S2 ps2 Hf2 H2 (x :: vs) k2 (e1.trans e2) (p1.trans p2) ok2 ⟨x, vs, rfl, ax.mono e2 p2, bx⟩
theorem rd_call {t : TA} {sp : Sp} {E : XK} (h : RdA K C t S fun as S1 => RcD K C (fun vs H Q => sp vs H Q E) as S1 Kn) : RdE K C (tCall sp [] E t) S Kn := by
  intro Z ps σ Hf H Q ok q
  refine h Z ps σ Hf H _ ok fun as S1 ps1 Hf1 H1 vs k1 e1 p1 ok1 ax => ?_
  show sp (vs ++ []) H1 Q E
  rw [List.append_nil]
  exact k1 Z ps1 σ Hf1 H1 Q vs ok1 ax fun r S' ps' Hf' H' v kk e p ok' av => q r S' ps' Hf' H' v kk (e1.trans e) (p1.trans p) ok' av
theorem rd_cb {t : TA} {r : List V → Hp → VK → Prop} (h : RdA K C t S fun as S1 => RcD K C r as S1 Kn) : RdE K C (tCB r t) S Kn := by
  intro Z ps σ Hf H Q ok q
  refine h Z ps σ Hf H _ ok fun as S1 ps1 Hf1 H1 vs k1 e1 p1 ok1 ax => ?_
  exact k1 Z ps1 σ Hf1 H1 Q vs ok1 ax fun r S' ps' Hf' H' v kk e p ok' av => q r S' ps' Hf' H' v kk (e1.trans e) (p1.trans p) ok' av
theorem sls_vals {ps : List Addr} {Hf : Hp} : ∀ {ds : List D} {vs : List V}, SlsAt K C ps Hf (ds.map Sl.val) vs → AtL K C Hf ds vs
  | [], _, h => h
  | _ :: _, _, ⟨v, us, h1, h2, h3⟩ => ⟨v, us, h1, h2, sls_vals h3⟩
/-- displays -/
theorem rd_tup {t : TA} (h : RdA K C t S fun as S1 => ∃ ds, as = List.map Sl.val ds ∧ ds.length ≤ sizeLine ∧ Kn (.val (.tup ds)) S1) : RdE K C (tTup t) S Kn := by
  intro Z ps σ Hf H Q ok q
  refine h Z ps σ Hf H _ ok fun as S1 ps1 Hf1 H1 vs ⟨ds, ea, hl, kk⟩ e1 p1 ok1 ax => ?_
  subst ea
  have av := sls_vals ax
  refine ⟨by rw [av.len]; exact hl, fun p np => ?_⟩
  have n1 := ok1.sub.free np
  exact q _ S1 ps1 _ _ _ kk (e1.trans (same_upd n1)) p1 (ok1.new np _) ⟨p, vs, rfl, upd_same, av.mono (same_upd n1)⟩
theorem rd_lst {t : TA} (h : RdA K C t S fun as S1 => ∃ ds, as = List.map Sl.val ds ∧ ds.length ≤ sizeLine ∧ Kn (.val (.lst ds)) S1) : RdE K C (tLst t) S Kn := by
  intro Z ps σ Hf H Q ok q
  refine h Z ps σ Hf H _ ok fun as S1 ps1 Hf1 H1 vs ⟨ds, ea, hl, kk⟩ e1 p1 ok1 ax => ?_
  subst ea
  have av := sls_vals ax
  refine ⟨by rw [av.len]; exact hl, fun p np => ?_⟩
  have n1 := ok1.sub.free np
  exact q _ S1 ps1 _ _ _ kk (e1.trans (same_upd n1)) p1 (ok1.new np _) ⟨p, vs, rfl, upd_same, av.mono (same_upd n1)⟩
/-- a list of one's own -/
theorem rd_lstO {t : TA} (h : RdA K C t S fun as S1 => ∃ ds, as = List.map Sl.val ds ∧ ds.length ≤ sizeLine ∧ Kn (.ptr S1.o.length) (S1.more (.lst ds))) : RdE K C (tLst t) S Kn := by
  intro Z ps σ Hf H Q ok q
  refine h Z ps σ Hf H _ ok fun as S1 ps1 Hf1 H1 vs ⟨ds, ea, hl, kk⟩ e1 p1 ok1 ax => ?_
  subst ea
  have av := sls_vals ax
  refine ⟨by rw [av.len]; exact hl, fun p np => ?_⟩
  exact q _ _ (ps1 ++ [p]) _ _ _ kk e1 (p1.trans (List.prefix_append _ _)) (ok1.push np ⟨vs, upd_same, av⟩) ⟨p, rfl, by rw [← ok1.plen, List.getElem?_append_right (Nat.le_refl _), Nat.sub_self]; rfl⟩
theorem rd_dnewO (k : Kn (.ptr S.o.length) (S.more (.dct [] []))) : RdE K C tDNewK S Kn := by
  intro Z ps σ Hf H Q ok q p np
  exact q _ _ (ps ++ [p]) _ _ _ k (Same.refl _) (List.prefix_append _ _) (ok.push np ⟨[], upd_same, rfl, rfl⟩) ⟨p, rfl, by rw [← ok.plen, List.getElem?_append_right (Nat.le_refl _), Nat.sub_self]; rfl⟩
/-- a if t else b -/
theorem rd_ifE (h : RdT K C tt S fun b S1 => if b = true then RdE K C ta S1 Kn else RdE K C tb S1 Kn) : RdE K C (tIf tt ta tb) S Kn := by
  intro Z ps σ Hf H Q ok q
  refine h Z ps σ Hf H _ ok fun b S1 ps1 Hf1 H1 k1 e1 p1 ok1 => ?_
  cases b with
  | true => exact iteT ((show RdE K C ta S1 Kn from k1) Z ps1 σ Hf1 H1 Q ok1 fun r S' ps' Hf' H' v kk e p ok' av => q r S' ps' Hf' H' v kk (e1.trans e) (p1.trans p) ok' av)
  | false => exact iteF ((show RdE K C tb S1 Kn from k1) Z ps1 σ Hf1 H1 Q ok1 fun r S' ps' Hf' H' v kk e p ok' av => q r S' ps' Hf' H' v kk (e1.trans e) (p1.trans p) ok' av)
/-! ### tests -/
variable {Kt : Bool → Sta → Prop} {u : TT}
theorem rd_test (h : RdE K C ta S fun a S1 => ∃ b, a = .val (.bl b) ∧ Kt b S1) : RdT K C (tTest ta) S Kt := by
  intro Z ps σ Hf H Q ok q
  refine h Z ps σ Hf H _ ok fun a S1 ps1 Hf1 H1 x ⟨b, ea, kk⟩ e1 p1 ok1 ax => ?_
  subst ea
  have ex : x = .bl b := ax
  exact ⟨b, ex, q b S1 ps1 Hf1 H1 kk e1 p1 ok1⟩
theorem rd_tB (h : RdE K C ta S fun a S1 => ∃ b, a = .val (.bl b) ∧ Kt b S1) : RdT K C (tB ta) S Kt := rd_test h
theorem rd_notT (h : RdT K C tt S fun b S1 => Kt (!b) S1) : RdT K C (tNot tt) S Kt := by
  intro Z ps σ Hf H Q ok q
  exact h Z ps σ Hf H _ ok fun b S1 ps1 Hf1 H1 kk e1 p1 ok1 => q (!b) S1 ps1 Hf1 H1 kk e1 p1 ok1
theorem rd_andT (h : RdT K C tt S fun b S1 => if b = true then RdT K C u S1 Kt else Kt false S1) : RdT K C (tAnd tt u) S Kt := by
  intro Z ps σ Hf H Q ok q
  refine h Z ps σ Hf H _ ok fun b S1 ps1 Hf1 H1 k1 e1 p1 ok1 => ?_
  cases b with
  | true => exact iteT ((show RdT K C u S1 Kt from k1) Z ps1 σ Hf1 H1 Q ok1 fun r S' ps' Hf' H' kk e p ok' => q r S' ps' Hf' H' kk (e1.trans e) (p1.trans p) ok')
  | false => exact iteF (q false S1 ps1 Hf1 H1 k1 e1 p1 ok1)
theorem rd_orT (h : RdT K C tt S fun b S1 => if b = true then Kt true S1 else RdT K C u S1 Kt) : RdT K C (tOr tt u) S Kt := by
  intro Z ps σ Hf H Q ok q
  refine h Z ps σ Hf H _ ok fun b S1 ps1 Hf1 H1 k1 e1 p1 ok1 => ?_
  cases b with
  | true => exact iteT (q true S1 ps1 Hf1 H1 k1 e1 p1 ok1)
  | false => exact iteF ((show RdT K C u S1 Kt from k1) Z ps1 σ Hf1 H1 Q ok1 fun r S' ps' Hf' H' kk e p ok' => q r S' ps' Hf' H' kk (e1.trans e) (p1.trans p) ok')
theorem rd_yes (k : Kt true S) : RdT K C tYes S Kt := fun Z ps σ Hf H Q ok q => q true S ps Hf H k (Same.refl _) (prefix_refl _) ok
/-! and, or, not as values of True and False -/
theorem rd_andV (h : RdE K C ta S fun a S1 => ∃ b, a = .val (.bl b) ∧ if b = true then RdE K C tb S1 Kn else Kn (.val (.bl false)) S1) : RdE K C (tAndV ta tb) S Kn := by
  intro Z ps σ Hf H Q ok q
  refine h Z ps σ Hf H _ ok fun a S1 ps1 Hf1 H1 x ⟨b, ea, kk⟩ e1 p1 ok1 ax => ?_
  subst ea
  have ex : x = .bl b := ax
  refine ⟨b, ex, ?_⟩
  cases b with
  | true => exact iteT ((show RdE K C tb S1 Kn from kk) Z ps1 σ Hf1 H1 Q ok1 fun r S' ps' Hf' H' v kk e p ok' av => q r S' ps' Hf' H' v kk (e1.trans e) (p1.trans p) ok' av)
  | false => exact iteF (q _ S1 ps1 Hf1 H1 _ kk e1 p1 ok1 rfl)
theorem rd_orV (h : RdE K C ta S fun a S1 => ∃ b, a = .val (.bl b) ∧ if b = true then Kn (.val (.bl true)) S1 else RdE K C tb S1 Kn) : RdE K C (tOrV ta tb) S Kn := by
  intro Z ps σ Hf H Q ok q
  refine h Z ps σ Hf H _ ok fun a S1 ps1 Hf1 H1 x ⟨b, ea, kk⟩ e1 p1 ok1 ax => ?_
  subst ea
  have ex : x = .bl b := ax
  refine ⟨b, ex, ?_⟩
  cases b with
  | true => exact iteT (q _ S1 ps1 Hf1 H1 _ kk e1 p1 ok1 rfl)
  | false => exact iteF ((show RdE K C tb S1 Kn from kk) Z ps1 σ Hf1 H1 Q ok1 fun r S' ps' Hf' H' v kk e p ok' av => q r S' ps' Hf' H' v kk (e1.trans e) (p1.trans p) ok' av)
theorem rd_notV (h : RdE K C ta S fun a S1 => ∃ b, a = .val (.bl b) ∧ Kn (.val (.bl (!b))) S1) : RdE K C (tNotV ta) S Kn := by
  intro Z ps σ Hf H Q ok q
  refine h Z ps σ Hf H _ ok fun a S1 ps1 Hf1 H1 x ⟨b, ea, kk⟩ e1 p1 ok1 ax => ?_
  subst ea
  have ex : x = .bl b := ax
  exact ⟨b, ex, q _ S1 ps1 Hf1 H1 _ kk e1 p1 ok1 rfl⟩
/-! ### operators on values -/
theorem r2_of (k : ∀ Z ps σ Hf H Q x y, Ok K C Z S ps σ Hf H → SlAt K C ps Hf a x → SlAt K C ps Hf b y → (∀ d v, Kn (.val d) S → At K C Hf d v → Q v H) → r x y H Q) : R2D K C r a b S Kn := fun Z ps σ Hf H Q x y ok ha hb q =>
  k Z ps σ Hf H Q x y ok ha hb fun d v kk hv => q _ S ps Hf H v kk (Same.refl _) (prefix_refl _) ok hv
def rOr (r r' : R2) : R2 := fun x y H Q => r x y H Q ∨ r' x y H Q
theorem r2_l {a b : Sl} (h : R2D K C r a b S Kn) : R2D K C (rOr r r') a b S Kn := fun Z ps σ Hf H Q x y ok ha hb q => .inl (h Z ps σ Hf H Q x y ok ha hb q)
theorem r2_r {a b : Sl} (h : R2D K C r' a b S Kn) : R2D K C (rOr r r') a b S Kn := fun Z ps σ Hf H Q x y ok ha hb q => .inr (h Z ps σ Hf H Q x y ok ha hb q)
theorem opOr {X : Cx} {f : Value → Value → Sem Value} (h : OpR X f r) (h' : OpR X f r') : OpR X f (rOr r r') := by
  intro pins s σ H x y v u Q I rx ry q
  rcases q with q | q
  · exact h pins s σ H x y v u Q I rx ry q
  · exact h' pins s σ H x y v u Q I rx ry q
theorem r2_ints {f : Int → Int → Int} {i j : Int} (k : Kn (.val (.int (f i j))) S) : R2D K C (rI0 fun i j => .int (f i j)) (.val (.int i)) (.val (.int j)) S Kn :=
  r2_of fun Z ps σ Hf H Q x y ok (ha : x = _) (hb : y = _) q => ⟨i, j, ha, hb, q _ _ k rfl⟩
theorem r2_cmp {f : Int → Int → Bool} {i j : Int} (k : Kn (.val (.bl (f i j))) S) : R2D K C (rI0 fun i j => .bl (f i j)) (.val (.int i)) (.val (.int j)) S Kn :=
  r2_of fun Z ps σ Hf H Q x y ok (ha : x = _) (hb : y = _) q => ⟨i, j, ha, hb, q _ _ k rfl⟩
theorem r2_intC {P : Int → Int → Prop} {f : Int → Int → Int} {i j : Int} (hp : P i j) (k : Kn (.val (.int (f i j))) S) : R2D K C (rI P fun i j => .int (f i j)) (.val (.int i)) (.val (.int j)) S Kn :=
  r2_of fun Z ps σ Hf H Q x y ok (ha : x = _) (hb : y = _) q => ⟨i, j, ha, hb, hp, q _ _ k rfl⟩
end
end DL

set_option Elab.async false
set_option linter.all false
set_option maxRecDepth 100000
set_option maxHeartbeats 1200000
namespace DL
open PySem L2 WP
section
variable {K : PySem.W.Frag} {C : Addr} {S : Sta} {E : Ed} {ta tb te : TE} {tt : TT} {t u : TS} {m : Nat}
/-! ### statements -/
theorem rd_seq (h : RdS K C m t S { E with nx := fun S1 => RdS K C m u S1 E }) : RdS K C m (tSeq t u) S E := by
  intro Z ps σ Hf H D ok qn qr qb qc
  refine h Z ps σ Hf H { D with nx := u D } ok (fun S1 ps1 σ1 Hf1 H1 k1 e1 p1 ok1 => ?_) qr qb qc
  exact (show RdS K C m u S1 E from k1) Z ps1 σ1 Hf1 H1 D ok1 (fun S' ps' σ' Hf' H' k e p => qn S' ps' σ' Hf' H' k (e1.trans e) (p1.trans p)) (fun r S' ps' σ' Hf' H' v k e p => qr r S' ps' σ' Hf' H' v k (e1.trans e) (p1.trans p))
    (fun S' ps' σ' Hf' H' k e p => qb S' ps' σ' Hf' H' k (e1.trans e) (p1.trans p)) (fun S' ps' σ' Hf' H' k e p => qc S' ps' σ' Hf' H' k (e1.trans e) (p1.trans p))
theorem rd_next (k : E.nx S) : RdS K C m tNext S E := fun Z ps σ Hf H D ok qn _ _ _ => qn S ps σ Hf H k (Same.refl _) (Kp.refl _ _) ok
theorem rd_set {i : Nat} (h : RdE K C te S fun r S1 => E.nx (S1.up i r)) : RdS K C m (tAsg te (gName i)) S E := by
  intro Z ps σ Hf H D ok qn qr qb qc
  exact h Z ps σ Hf H _ ok fun r S1 ps1 Hf1 H1 v k1 e1 p1 ok1 av => qn _ ps1 _ Hf1 H1 k1 e1 (Kp.of p1) (ok1.set av)
theorem rd_par {i j : Nat} {t : TA} (h : RdA K C t S fun rs S1 => ∃ a b, rs = [a, b] ∧ E.nx ((S1.up i a).up j b)) : RdS K C m (tPar i j t) S E := by
  intro Z ps σ Hf H D ok qn qr qb qc
  refine h Z ps σ Hf H _ ok fun rs S1 ps1 Hf1 H1 vs ⟨a, b, ea, k1⟩ e1 p1 ok1 av => ?_
  subst ea
  obtain ⟨v, us, e2, av1, w, us2, e3, av2, e4⟩ := av
  have e4 : us2 = [] := e4
  subst e4 e3 e2
  refine ⟨v, w, rfl, qn _ ps1 _ Hf1 H1 k1 e1 (Kp.of p1) ?_⟩
  exact (ok1.set av1).set (S := ⟨S1.g.set i a, S1.o⟩) av2
theorem rd_ret (h : RdE K C te S E.rt) : RdS K C m (tRet te) S E := by
  intro Z ps σ Hf H D ok qn qr qb qc
  exact h Z ps σ Hf H _ ok fun r S1 ps1 Hf1 H1 v k1 e1 p1 ok1 av => qr r S1 ps1 σ Hf1 H1 v k1 e1 (Kp.of p1) ok1 av
theorem rd_retN (k : E.rt (.val .non) S) : RdS K C m tRetN S E := fun Z ps σ Hf H D ok qn qr qb qc => qr _ S ps σ Hf H .non k (Same.refl _) (Kp.refl _ _) ok rfl
theorem rd_drop (h : RdE K C te S fun _ S1 => E.nx S1) : RdS K C m (tDrop te) S E := by
  intro Z ps σ Hf H D ok qn qr qb qc
  exact h Z ps σ Hf H _ ok fun r S1 ps1 Hf1 H1 v k1 e1 p1 ok1 av => qn S1 ps1 σ Hf1 H1 k1 e1 (Kp.of p1) ok1
theorem rd_ifS (h : RdT K C tt S fun b S1 => if b = true then RdS K C m t S1 E else RdS K C m u S1 E) : RdS K C m (tIfS tt t u) S E := by
  intro Z ps σ Hf H D ok qn qr qb qc
  refine h Z ps σ Hf H _ ok fun b S1 ps1 Hf1 H1 k1 e1 p1 ok1 => ?_
  have go : ∀ {x : TS}, RdS K C m x S1 E → x D σ H1 := fun kx => kx Z ps1 σ Hf1 H1 D ok1 (fun S' ps' σ' Hf' H' k e p => qn S' ps' σ' Hf' H' k (e1.trans e) ((Kp.of p1).trans p)) (fun r S' ps' σ' Hf' H' v k e p => qr r S' ps' σ' Hf' H' v k (e1.trans e) ((Kp.of p1).trans p))
    (fun S' ps' σ' Hf' H' k e p => qb S' ps' σ' Hf' H' k (e1.trans e) ((Kp.of p1).trans p)) (fun S' ps' σ' Hf' H' k e p => qc S' ps' σ' Hf' H' k (e1.trans e) ((Kp.of p1).trans p))
  cases b with
  | true => exact iteT (go (show RdS K C m t S1 E from k1))
  | false => exact iteF (go (show RdS K C m u S1 E from k1))
theorem rd_break (k : E.bk S) : RdS K C m tBreak S E := fun Z ps σ Hf H D ok qn qr qb qc => qb S ps σ Hf H k (Same.refl _) (Kp.refl _ _) ok
theorem rd_cont (k : E.ct S) : RdS K C m tCont S E := fun Z ps σ Hf H D ok qn qr qb qc => qc S ps σ Hf H k (Same.refl _) (Kp.refl _ _) ok
/-- own cell, the last one, never changes from now on -/
def frz (n : Nat) (d : D) : List Sl → List Sl
  | [] => []
  | .ptr m :: g => (if m = n then .val d else .ptr m) :: frz n d g
  | r :: g => r :: frz n d g
theorem frz_len (n : Nat) (d : D) : ∀ g : List Sl, (frz n d g).length = g.length
  | [] => rfl
  | .ptr m :: g => by show (frz n d g).length + 1 = _; rw [frz_len n d g]; rfl
  | .any :: g => by show (frz n d g).length + 1 = _; rw [frz_len n d g]; rfl
  | .val e :: g => by show (frz n d g).length + 1 = _; rw [frz_len n d g]; rfl
theorem frz_get (n : Nat) (d : D) : ∀ (g : List Sl) (i : Nat) (r : Sl), (frz n d g)[i]? = some r → (g[i]? = some r ∧ r ≠ .ptr n) ∨ (g[i]? = some (.ptr n) ∧ r = .val d)
  | [], i, r, h => by cases h
  | .ptr m :: g, 0, r, h => by
    have h2 : (if m = n then Sl.val d else Sl.ptr m) = r := Option.some.inj h
    by_cases e : m = n
    · rw [if_pos e] at h2
      exact .inr ⟨by rw [e]; rfl, h2.symm⟩
    · rw [if_neg e] at h2
      exact .inl ⟨by rw [← h2]; rfl, fun z => e (by rw [← h2] at z; cases z; rfl)⟩
  | .any :: g, 0, r, h => .inl ⟨h, fun z => by rw [z] at h; cases h⟩
  | .val x :: g, 0, r, h => .inl ⟨h, fun z => by rw [z] at h; cases h⟩
  | .ptr m :: g, i + 1, r, h => frz_get n d g i r h
  | .any :: g, i + 1, r, h => frz_get n d g i r h
  | .val x :: g, i + 1, r, h => frz_get n d g i r h
theorem split_last {α : Type} {ps : List α} {n : Nat} (h : ps.length = n + 1) : ∃ qs p, ps = qs ++ [p] ∧ qs.length = n := by
  have hne : ps ≠ [] := fun e => by rw [e] at h; cases h
  exact ⟨ps.dropLast, ps.getLast hne, (List.dropLast_concat_getLast hne).symm, by rw [List.length_dropLast, h]; rfl⟩
theorem Ok.frozen {Z Hf H : Hp} {ps : List Addr} {p : Addr} {σ : L2.St} {g : List Sl} {o : List Cell} {xs : List D} (ok : Ok K C Z ⟨g, o ++ [.lst xs]⟩ (ps ++ [p]) σ Hf H) (hp : ∀ (i n : Nat), g[i]? = some (Sl.ptr n) → n ≤ o.length) :
    ∃ Hf', Same Hf Hf' ∧ Ok K C Z ⟨frz o.length (.lst xs) g, o⟩ ps σ Hf' H ∧ At K C Hf' (.lst xs) (.ref p) := by
  have pl : ps.length = o.length := by
    have := ok.plen
    rw [List.length_append, List.length_append] at this
    exact Nat.add_right_cancel this
  have np : Hf p = none := ok.free p (List.mem_append_right _ (List.mem_singleton.mpr rfl))
  obtain ⟨vs, h1, h2⟩ := ok.cell o.length (.lst xs) p (by show (o ++ [_])[_]? = _; rw [List.getElem?_append_right (Nat.le_refl _), Nat.sub_self]; rfl) (by rw [← pl, List.getElem?_append_right (Nat.le_refl _), Nat.sub_self]; rfl)
  have e1 : Same Hf (upd Hf p (.lst vs)) := same_upd np
  have hv : At K C (upd Hf p (.lst vs)) (.lst xs) (.ref p) := ⟨p, vs, rfl, upd_same, h2.mono e1⟩
  have ok0 := ok.freeze (x := .lst vs) h1
  have nd := List.nodup_append.mp ok.nd
  refine ⟨_, e1, ?_, hv⟩
  refine {
    sub := fun b w q => ?_
    len := by rw [frz_len]; exact ok.len
    slot := fun i r a b => ?_
    plen := pl
    cell := fun n c q a b => ?_
    free := fun q hq => ?_
    nd := nd.1
    far := fun a y q => ?_ }
  · by_cases e : b = p
    · subst e
      rw [upd_same] at q
      rw [← q]
      exact h1
    · rw [upd_ne e] at q
      exact ok.sub b w q
  · rcases frz_get o.length (.lst xs) g i r a with ⟨h3, h4⟩ | ⟨h3, h4⟩
    · obtain ⟨v, h5, h6⟩ := ok.slot i r h3 b
      refine ⟨v, h5, ?_⟩
      cases r with
      | any => trivial
      | val d => exact At.mono e1 h6
      | ptr n =>
        obtain ⟨q, h7, h8⟩ := h6
        have l : n < ps.length := by
          have a1 := hp i n h3
          have a2 : n ≠ o.length := fun z => h4 (by rw [z])
          omega
        rw [List.getElem?_append_left l] at h8
        exact ⟨q, h7, h8⟩
    · obtain ⟨v, h5, q, h7, h8⟩ := ok.slot i _ h3 (fun z => by cases z)
      rw [← pl, List.getElem?_append_right (Nat.le_refl _), Nat.sub_self] at h8
      cases h8
      refine ⟨v, h5, ?_⟩
      rw [h4, h7]
      exact hv
  · have l1 := (List.getElem?_eq_some_iff.mp a).1
    have := ok.cell n c q (by show (o ++ [_])[n]? = _; rw [List.getElem?_append_left l1]; exact a) (by rw [List.getElem?_append_left (by rw [pl]; exact l1)]; exact b)
    exact this.mono e1 fun _ z => z
  · have ne : q ≠ p := fun z => nd.2.2 q hq p (List.mem_singleton.mpr rfl) z
    rw [upd_ne ne]
    exact ok.free q (List.mem_append_left _ hq)
  · obtain ⟨h1, h2, h3⟩ := ok.far a y q
    have ne : a ≠ p := fun z => h3 (by rw [z]; exact List.mem_append_right _ (List.mem_singleton.mpr rfl))
    exact ⟨h1, by rw [upd_ne ne]; exact h2, fun z => h3 (List.mem_append_left _ z)⟩
theorem rd_freeze {g : List Sl} {o : List Cell} {xs : List D} (hm : m ≤ o.length) (hp : ∀ (i n : Nat), g[i]? = some (Sl.ptr n) → n ≤ o.length) (h : RdS K C m t ⟨frz o.length (.lst xs) g, o⟩ E) : RdS K C m t ⟨g, o ++ [.lst xs]⟩ E := by
  intro Z ps σ Hf H D ok qn qr qb qc
  obtain ⟨qs, p, rfl, hq⟩ := split_last (ps := ps) (n := o.length) (by rw [ok.plen]; show (o ++ [_]).length = _; rw [List.length_append]; rfl)
  obtain ⟨Hf1, e1, ok1, _⟩ := ok.frozen hp
  have kp : Kp m (qs ++ [p]) qs := fun n q hn e => by
    rw [List.getElem?_append_left (by omega)] at e
    exact e
  exact h Z qs σ Hf1 H D ok1 (fun S' ps' σ' Hf' H' k e p => qn S' ps' σ' Hf' H' k (e1.trans e) (kp.trans p)) (fun r S' ps' σ' Hf' H' v k e p => qr r S' ps' σ' Hf' H' v k (e1.trans e) (kp.trans p))
    (fun S' ps' σ' Hf' H' k e p => qb S' ps' σ' Hf' H' k (e1.trans e) (kp.trans p)) (fun S' ps' σ' Hf' H' k e p => qc S' ps' σ' Hf' H' k (e1.trans e) (kp.trans p))
end
end DL

set_option Elab.async false
set_option linter.all false
set_option maxRecDepth 100000
set_option maxHeartbeats 1200000
namespace DL
open PySem PySem.Spec PyProof.Rows L2 WP
/-! ### slots that are forgotten -/
theorem wipe_in {σ : L2.St} {i : Nat} : ∀ {vs : List Nat}, i ∈ vs → i < σ.length → (wipe σ vs)[i]? = some none
  | [], h, _ => by cases h
  | v :: vs, h, hl => by
    unfold wipe
    by_cases e : v = i
    · subst e
      rw [List.getElem?_set_self (by rw [wipe_length]; exact hl)]
    · rw [List.getElem?_set_ne e]
      rcases List.mem_cons.mp h with z | z
      · exact absurd z.symm e
      · exact wipe_in z hl
theorem wipe_eq {σ σ' : L2.St} {vs : List Nat} (hl : σ'.length = σ.length) (h : ∀ i, i ∉ vs → σ'[i]? = σ[i]?) : wipe σ' vs = wipe σ vs := by
  refine List.ext_getElem? fun i => ?_
  by_cases hi : i ∈ vs
  · by_cases l : i < σ.length
    · rw [wipe_in hi l, wipe_in hi (by rw [hl]; exact l)]
    · rw [List.getElem?_eq_none (by rw [wipe_length, hl]; omega), List.getElem?_eq_none (by rw [wipe_length]; omega)]
  · rw [wipe_out hi, wipe_out hi, h i hi]
def wipeG (g : List Sl) : List Nat → List Sl
  | [] => g
  | v :: vs => (wipeG g vs).set v .any
section
variable {K : PySem.W.Frag} {C : Addr}
theorem Ok.wipe {Z Hf H : Hp} {S : Sta} {ps : List Addr} {σ : L2.St} (h : Ok K C Z S ps σ Hf H) : ∀ vs : List Nat, Ok K C Z ⟨wipeG S.g vs, S.o⟩ ps (wipe σ vs) Hf H
  | [] => h
  | v :: vs => (Ok.wipe h vs).unset v none
/-- slots of before, cells of now -/
theorem Ok.swap {Z Hf H Hf' H' : Hp} {S S' : Sta} {ps ps' : List Addr} {σ σ' : L2.St} (h : Ok K C Z S ps σ Hf H) (h' : Ok K C Z S' ps' σ' Hf' H') (e : Same Hf Hf') (p : ps <+: ps') : Ok K C Z ⟨S.g, S'.o⟩ ps' σ Hf' H' where
  sub := h'.sub
  len := h.len
  slot := fun i r a b => by
    obtain ⟨v, h1, h2⟩ := h.slot i r a b
    exact ⟨v, h1, h2.mono e p⟩
  plen := h'.plen
  cell := h'.cell
  free := h'.free
  nd := h'.nd
  far := h'.far
theorem Ok.ptrs {Z Hf H : Hp} {S : Sta} {ps : List Addr} {σ : L2.St} (h : Ok K C Z S ps σ Hf H) (i n : Nat) (e : S.g[i]? = some (Sl.ptr n)) : n < S.o.length := by
  obtain ⟨v, h1, p, h2, h3⟩ := h.slot i _ e (fun z => by cases z)
  rw [← h.plen]
  exact (List.getElem?_eq_some_iff.mp h3).1
/-! ### what is walked -/
variable (K C) in
def YD (Hf : Hp) (d : D) (H : Hp) (x : V) (H' : Hp) : Prop := (H' = H ∧ At K C Hf d x) ∨ ∃ T ds vs, d = D.tup ds ∧ x = .ref T ∧ H T = none ∧ H' = upd H T (.tup vs) ∧ AtL K C Hf ds vs
theorem YD.ok {Z Hf Hf2 H2 H3 : Hp} {S : Sta} {ps : List Addr} {σ : L2.St} {d : D} {x : V} (y : YD K C Hf d H2 x H3) (h : Ok K C Z S ps σ Hf2 H2) (e : Same Hf Hf2) : ∃ Hf3, Same Hf2 Hf3 ∧ Ok K C Z S ps σ Hf3 H3 ∧ At K C Hf3 d x := by
  rcases y with ⟨rfl, a⟩ | ⟨T, ds, vs, rfl, rfl, nT, rfl, a⟩
  · exact ⟨Hf2, Same.refl _, h, At.mono e a⟩
  · have n2 := h.sub.free nT
    exact ⟨_, same_upd n2, h.new nT _, T, vs, rfl, upd_same, (a.mono e).mono (same_upd n2)⟩
variable (K C) in
def RdI (wi : TI) (S : Sta) (Kn : List D → Sta → Prop) : Prop := ∀ (Z : Hp) (ps : List Addr) (σ : L2.St) (Hf H : Hp) (R : It → Hp → Prop), Ok K C Z S ps σ Hf H →
  (∀ J ds S' ps' Hf' H', Kn ds S' → Same Hf Hf' → ps <+: ps' → Ok K C Z S' ps' σ Hf' H' → (∃ G Y, Walk J ds.length G Y ∧ (∀ H2, Same Hf' H2 → G H2) ∧ ∀ i d H2 x H3, ds[i]? = some d → Y i H2 x H3 → YD K C Hf' d H2 x H3) → R J H') → wi σ H R
variable (K C) in
def RdG (js : List Nat) (g : TG) (r : Sl) (S : Sta) (Kn : Sta → Prop) : Prop := ∀ (Z : Hp) (ps : List Addr) (σ : L2.St) (Hf H : Hp) (Q : L2.St → Hp → Prop) (v : V), Ok K C Z S ps σ Hf H → SlAt K C ps Hf r v →
  (∀ S' σ', Kn S' → σ'.length = σ.length → (∀ i, i ∉ js → σ'[i]? = σ[i]?) → Ok K C Z S' ps σ' Hf H → Q σ' H) → g v σ H Q
theorem rg_name {i : Nat} {r : Sl} {S : Sta} {Kn : Sta → Prop} (k : Kn (S.up i r)) : RdG K C [i] (gName i) r S Kn := by
  intro Z ps σ Hf H Q v ok av q
  exact q _ _ k (List.length_set ..) (fun j hj => List.getElem?_set_ne (fun e => hj (List.mem_singleton.mpr e.symm))) (ok.set av)
theorem rg_tup2 {i j : Nat} {a b : D} {S : Sta} {Kn : Sta → Prop} (k : Kn ((S.up i (.val a)).up j (.val b))) : RdG K C [i, j] (gTup K 2 (gCons (gName i) (gCons (gName j) gNil))) (.val (.tup [a, b])) S Kn := by
  intro Z ps σ Hf H Q v ok av q
  obtain ⟨p, vs, rfl, hp, x, us, rfl, ax, y, us2, rfl, ay, e⟩ := av
  have e : us2 = [] := e
  subst e
  refine ⟨p, [x, y], rfl, .inl (.inl (ok.sub _ _ hp)), rfl, x, [y], rfl, y, [], rfl, rfl, ?_⟩
  refine q _ _ k (by rw [List.length_set, List.length_set]) (fun l hl => ?_) ((ok.set (r := .val a) ax).set (S := ⟨S.g.set i (.val a), S.o⟩) (r := .val b) ay)
  rw [List.getElem?_set_ne (fun e => hl (by rw [← e]; simp)), List.getElem?_set_ne (fun e => hl (by rw [← e]; simp))]
section
variable {S : Sta} {Kn : List D → Sta → Prop} {te : TE} {ta : TA}
theorem ri_list (h : RdE K C te S fun r S1 => ∃ ds, r = .val (.lst ds) ∧ Kn ds S1) : RdI K C (iList K te) S Kn := by
  intro Z ps σ Hf H R ok q
  refine h Z ps σ Hf H _ ok fun r S1 ps1 Hf1 H1 v ⟨ds, er, k1⟩ e1 p1 ok1 av => ?_
  subst er
  obtain ⟨a, vs, rfl, ha, av⟩ := av
  refine ⟨a, rfl, ⟨vs, .inl (.inl (ok1.sub _ _ ha))⟩, q _ ds S1 ps1 Hf1 H1 k1 e1 p1 ok1 ⟨_, _, by rw [← av.len]; exact walk_list (K := K) (a := a) (xs := vs), fun H2 s2 => (show SqL K H2 a vs from .inl (.inl (s2 _ _ ha))), ?_⟩⟩
  rintro i d H2 x H3 hd ⟨rfl, hx⟩
  obtain ⟨u, hu, hu2⟩ := av.get hd
  rw [hx] at hu
  cases hu
  exact .inl ⟨rfl, hu2⟩
theorem ri_tup (h : RdE K C te S fun r S1 => ∃ ds, r = .val (.tup ds) ∧ Kn ds S1) : RdI K C (iTup K te) S Kn := by
  intro Z ps σ Hf H R ok q
  refine h Z ps σ Hf H _ ok fun r S1 ps1 Hf1 H1 v ⟨ds, er, k1⟩ e1 p1 ok1 av => ?_
  subst er
  obtain ⟨a, vs, rfl, ha, av⟩ := av
  refine ⟨a, rfl, ⟨vs, .inl (.inl (ok1.sub _ _ ha))⟩, q _ ds S1 ps1 Hf1 H1 k1 e1 p1 ok1 ⟨_, _, by rw [← av.len]; exact walk_tup (K := K) (a := a) (xs := vs), fun H2 s2 => (show SqT K H2 a vs from .inl (.inl (s2 _ _ ha))), ?_⟩⟩
  rintro i d H2 x H3 hd ⟨rfl, hx⟩
  obtain ⟨u, hu, hu2⟩ := av.get hd
  rw [hx] at hu
  cases hu
  exact .inl ⟨rfl, hu2⟩
/-- the turns of a range -/
def rng (lo : Int) (n : Nat) : List D := (List.range n).map fun i => D.int (lo + (i : Nat))
theorem rng_len (lo : Int) (n : Nat) : (rng lo n).length = n := by unfold rng; rw [List.length_map, List.length_range]
theorem rng_get {lo : Int} {n i : Nat} {d : D} (h : (rng lo n)[i]? = some d) : i < n ∧ d = .int (lo + (i : Nat)) := by
  have l : i < n := by
    have := (List.getElem?_eq_some_iff.mp h).1
    rw [rng_len] at this
    exact this
  unfold rng at h
  rw [List.getElem?_map, List.getElem?_range l] at h
  exact ⟨l, (Option.some.inj h).symm⟩
theorem ri_rng {J : It} {lo : Int} {n : Nat} {Hf : Hp} (w : Walk J n (fun _ => True) (YFn fun i => .int (lo + i))) : ∃ G Y, Walk J (rng lo n).length G Y ∧ (∀ H2, Same Hf H2 → G H2) ∧ ∀ i d H2 x H3, (rng lo n)[i]? = some d → Y i H2 x H3 → YD K C Hf d H2 x H3 := by
  refine ⟨_, _, by rw [rng_len]; exact w, fun _ _ => trivial, ?_⟩
  rintro i d H2 x H3 hd ⟨rfl, rfl⟩
  obtain ⟨_, rfl⟩ := rng_get hd
  exact .inl ⟨rfl, rfl⟩
/-- the turns of range(n) -/
def rng0 (n : Nat) : List D := (List.range n).map fun i => D.int (i : Nat)
theorem rng0_eq (n : Nat) : rng0 n = rng 0 n := by
  unfold rng0 rng
  refine List.map_congr_left fun i _ => ?_
  rw [Int.zero_add]
theorem rng0_len (n : Nat) : (rng0 n).length = n := by rw [rng0_eq, rng_len]
theorem rng0_get {n i : Nat} {d : D} (h : (rng0 n)[i]? = some d) : i < n ∧ d = .int (i : Nat) := by
  rw [rng0_eq] at h
  obtain ⟨h1, h2⟩ := rng_get h
  rw [Int.zero_add] at h2
  exact ⟨h1, h2⟩
theorem ri_range1 (h : RdA K C ta S fun rs S1 => ∃ j : Int, rs = [.val (.int j)] ∧ -(2 ^ 62) ≤ j ∧ j < 2 ^ 62 ∧ Kn (rng0 j.toNat) S1) : RdI K C (iRng1 ta) S Kn := by
  intro Z ps σ Hf H R ok q
  refine h Z ps σ Hf H _ ok fun rs S1 ps1 Hf1 H1 vs ⟨j, er, b1, b2, k1⟩ e1 p1 ok1 av => ?_
  subst er
  obtain ⟨v, us, rfl, a1, a2⟩ := av
  have a1 : v = .int j := a1
  have a2 : us = [] := a2
  subst a1 a2
  rw [rng0_eq] at k1
  exact ⟨j, rfl, b1, b2, q _ _ S1 ps1 Hf1 H1 k1 e1 p1 ok1 (ri_rng walk_range)⟩
theorem ri_range2 (h : RdA K C ta S fun rs S1 => ∃ i j : Int, rs = [.val (.int i), .val (.int j)] ∧ (-(2 ^ 62) ≤ i ∧ i < 2 ^ 62 ∧ -(2 ^ 62) ≤ j ∧ j < 2 ^ 62) ∧ Kn (rng i (j - i).toNat) S1) : RdI K C (iRng2 ta) S Kn := by
  intro Z ps σ Hf H R ok q
  refine h Z ps σ Hf H _ ok fun rs S1 ps1 Hf1 H1 vs ⟨i, j, er, b1, k1⟩ e1 p1 ok1 av => ?_
  subst er
  obtain ⟨v, us, rfl, a1, w, us2, rfl, a2, a3⟩ := av
  have a1 : v = .int i := a1
  have a2 : w = .int j := a2
  have a3 : us2 = [] := a3
  subst a1 a2 a3
  exact ⟨i, j, rfl, b1, q _ _ S1 ps1 Hf1 H1 k1 e1 p1 ok1 (ri_rng walk_range)⟩
/-- a text's signs -/
def signs (z : Str) : List D := z.cps.toList.map fun c => D.str ⟨#[c]⟩
theorem ri_str (h : RdE K C te S fun r S1 => ∃ z, r = .val (.str z) ∧ Kn (signs z) S1) : RdI K C (iStr te) S Kn := by
  intro Z ps σ Hf H R ok q
  refine h Z ps σ Hf H _ ok fun r S1 ps1 Hf1 H1 v ⟨z, er, k1⟩ e1 p1 ok1 av => ?_
  subst er
  have av : v = .str z := av
  subst av
  refine ⟨z, rfl, q _ _ S1 ps1 Hf1 H1 k1 e1 p1 ok1 ⟨_, _, by unfold signs; rw [List.length_map, Array.length_toList]; exact walk_str, fun _ _ => trivial, ?_⟩⟩
  rintro i d H2 x H3 hd ⟨rfl, c, hc, rfl⟩
  unfold signs at hd
  rw [List.getElem?_map, Array.getElem?_toList, hc] at hd
  cases hd
  exact .inl ⟨rfl, rfl⟩
end
/-! ### for -/
def WkTo (m : Nat) (I : Sta → Prop) (S : Sta) : Prop := ∃ g' o o', S.o = o ++ o' ∧ WkG o.length S.g g' ∧ o.length = m ∧ I ⟨g', o⟩
theorem kp_take {m : Nat} {ps ps' : List Addr} (h : Kp m ps ps') (l : ps.length = m) (l' : m ≤ ps'.length) : ps'.take m = ps := by
  refine List.ext_getElem? fun i => ?_
  by_cases hi : i < m
  · rw [List.getElem?_take_of_lt hi]
    have e : ps[i]? = some (ps[i]'(by omega)) := List.getElem?_eq_getElem _
    rw [h i _ hi e, e]
  · rw [List.getElem?_eq_none (by rw [List.length_take]; omega), List.getElem?_eq_none (by omega)]
theorem rd_for {m : Nat} {js : List Nat} {wi : TI} {g : TG} {tb : TS} {S : Sta} {E : Ed} (I : Nat → Sta → Prop)
    (h : RdI K C wi S fun ds S1 => m ≤ S1.o.length ∧ I 0 S1 ∧ (∀ i d S2, ds[i]? = some d → S2.o.length = S1.o.length → I i S2 → RdG K C js g (.val d) S2 fun S3 =>
      RdS K C S1.o.length tb S3 { nx := WkTo S1.o.length (I (i + 1)), ct := WkTo S1.o.length (I (i + 1)), bk := E.nx, rt := E.rt }) ∧ ∀ S2, S2.o.length = S1.o.length → I ds.length S2 → E.nx S2) : RdS K C m (tFor wi g tb) S E := by
  intro Z ps σ Hf H D ok qn qr qb qc
  refine h Z ps σ Hf H _ ok fun J ds S1 ps1 Hf1 H1 ⟨hm, k0, ks, kd⟩ e1 p1 ok1 ⟨G, Y, wk, hG, hY⟩ => ?_
  have l1 := ok1.plen
  refine for_it wk (fun i σ' H' => ∃ S2 Hf2, I i S2 ∧ S2.o.length = S1.o.length ∧ Same Hf1 Hf2 ∧ Ok K C Z S2 ps1 σ' Hf2 H') ⟨S1, Hf1, k0, rfl, Same.refl _, ok1⟩ (fun i σ' H' _ ⟨S2, Hf2, _, _, s2, ok2⟩ => hG H' (s2.trans ok2.sub)) ?_ ?_
  · rintro i x σ2 H2 H3 hi ⟨S2, Hf2, i2, l2, s2, ok2⟩ hy
    have hd : ds[i]? = some ds[i] := List.getElem?_eq_getElem hi
    obtain ⟨Hf3, s3, ok3, ax⟩ := (hY i _ H2 x H3 hd hy).ok ok2 s2
    refine ks i _ S2 hd l2 i2 Z ps1 σ2 Hf3 H3 _ x ok3 ax fun S4 σ4 k4 _ _ ok4 => ?_
    have again : ∀ S5 ps5 σ5 Hf5 H5, WkTo S1.o.length (I (i + 1)) S5 → Same Hf3 Hf5 → Kp S1.o.length ps1 ps5 → Ok K C Z S5 ps5 σ5 Hf5 H5 → ∃ S2 Hf2, I (i + 1) S2 ∧ S2.o.length = S1.o.length ∧ Same Hf1 Hf2 ∧ Ok K C Z S2 ps1 σ5 Hf2 H5 := by
      rintro ⟨g5, o5⟩ ps5 σ5 Hf5 H5 ⟨g', o, o', eo, wg, lo, i5⟩ e5 p5 ok5
      have eo : o5 = o ++ o' := eo
      subst eo
      refine ⟨⟨g', o⟩, Hf5, i5, lo, (s2.trans s3).trans e5, ?_⟩
      have w := ok5.weak wg
      have l5 := ok5.plen
      have l6 : (o ++ o').length = o.length + o'.length := List.length_append
      have l7 : ps5.length = (o ++ o').length := l5
      rw [lo, kp_take p5 l1 (by omega)] at w
      exact w
    exact k4 Z ps1 σ4 Hf3 H3 _ ok4 (fun S5 ps5 σ5 Hf5 H5 k5 e5 p5 ok5 => again S5 ps5 σ5 Hf5 H5 k5 e5 p5 ok5)
      (fun r S' ps' σ' Hf' H' v k e p => qr r S' ps' σ' Hf' H' v k (e1.trans (s2.trans (s3.trans e))) ((Kp.of p1).trans (p.mono hm)))
      (fun S' ps' σ' Hf' H' k e p => qn S' ps' σ' Hf' H' k (e1.trans (s2.trans (s3.trans e))) ((Kp.of p1).trans (p.mono hm)))
      (fun S5 ps5 σ5 Hf5 H5 k5 e5 p5 ok5 => again S5 ps5 σ5 Hf5 H5 k5 e5 p5 ok5)
  · rintro σ2 H2 ⟨S2, Hf2, i2, l2, s2, ok2⟩
    exact qn S2 ps1 σ2 Hf2 H2 (kd S2 l2 i2) (e1.trans s2) (Kp.of p1) ok2
/-! ### comprehensions -/
theorem pre_eq {α : Type} {a b : List α} (h : a <+: b) (l : b.length ≤ a.length) : b = a := (h.eq_of_length_le l).symm
theorem set_last {α : Type} (o : List α) (c d : α) : (o ++ [c]).set o.length d = o ++ [d] := by
  rw [List.set_append_right _ _ (Nat.le_refl _), Nat.sub_self]
  rfl
theorem get_last {α : Type} (o : List α) (c : α) : (o ++ [c])[o.length]? = some c := by
  rw [List.getElem?_append_right (Nat.le_refl _), Nat.sub_self]
  rfl
theorem rd_lc {js : List Nat} {wi : TI} {g : TG} {tt : TT} {te : TE} {vs : List Nat} {S : Sta} {Kn : KE} (hj : ∀ j ∈ js, j ∈ vs) (Iv : Nat → List D → Prop)
    (h : RdI K C wi S fun ds S1 => ds.length < sizeLine ∧ Iv 0 [] ∧ (∀ i d acc, ds[i]? = some d → acc.length ≤ i → Iv i acc → RdG K C js g (.val d) ⟨wipeG S1.g vs, S1.o ++ [.lst acc]⟩ fun S2 =>
      RdT K C tt S2 fun b S3 => if b = true then RdE K C te S3 fun r S4 => ∃ y, r = .val y ∧ S4.o = S1.o ++ [.lst acc] ∧ Iv (i + 1) (acc ++ [y]) else S3.o = S1.o ++ [.lst acc] ∧ Iv (i + 1) acc) ∧
      ∀ acc, acc.length ≤ ds.length → Iv ds.length acc → Kn (.val (.lst acc)) S1) : RdE K C (tLc wi g tt te vs) S Kn := by
  intro Z ps σ Hf H Q ok q
  refine h Z ps σ Hf H _ ok fun J ds S1 ps1 Hf1 H1 ⟨hl, i0, ks, kd⟩ e1 p1 ok1 ⟨G, Y, wk, hG, hY⟩ => ?_
  have l1 := ok1.plen
  intro D nD
  refine lc_it wk (fun i H' => ∃ acc Hf2, Iv i acc ∧ acc.length ≤ i ∧ Same Hf1 Hf2 ∧ Ok K C Z ⟨S1.g, S1.o ++ [.lst acc]⟩ (ps1 ++ [D]) σ Hf2 H') ⟨[], Hf1, i0, Nat.le_refl 0, Same.refl _, ok1.push nD (c := .lst []) (show CellAt K C Hf1 _ D (.lst []) from ⟨[], upd_same, rfl⟩)⟩ (fun i H' _ ⟨acc, Hf2, _, _, s2, ok2⟩ => hG H' (s2.trans ok2.sub)) ?_ ?_
  · rintro i x H2 H3 hi ⟨acc, Hf2, i2, l2, s2, ok2⟩ hy
    have hd : ds[i]? = some ds[i] := List.getElem?_eq_getElem hi
    obtain ⟨Hf3, s3, ok3, ax⟩ := (hY i _ H2 x H3 hd hy).ok ok2 s2
    refine ks i _ acc hd l2 i2 Z (ps1 ++ [D]) (L2.wipe σ vs) Hf3 H3 _ x (ok3.wipe vs) ax fun S4 σ4 k4 hw1 hw2 ok4 => ?_
    refine ⟨?_, k4 Z _ σ4 Hf3 H3 _ ok4 fun b S5 ps5 Hf5 H5 k5 e5 p5 ok5 => ?_⟩
    · refine wipe_eq (by rw [hw1, wipe_length]) fun j hjv => ?_
      rw [hw2 j (fun z => hjv (hj j z)), wipe_out hjv]
    · have lq : (ps1 ++ [D]).length = S1.o.length + 1 := by rw [List.length_append, l1]; rfl
      cases b with
      | true =>
        refine iteT ((show RdE K C te S5 _ from k5) Z ps5 σ4 Hf5 H5 _ ok5 fun r S6 ps6 Hf6 H6 y ⟨d, er, eo, iv⟩ e6 p6 ok6 av => ?_)
        subst er
        have pe : ps6 = ps1 ++ [D] := pre_eq (p5.trans p6) (by rw [ok6.plen, eo, List.length_append, lq]; exact Nat.le_refl _)
        subst pe
        have ix : (ps1 ++ [D])[S1.o.length]? = some D := by rw [← l1]; exact get_last _ _
        obtain ⟨us, h1, h2⟩ := ok6.cell S1.o.length (.lst acc) D (by rw [eo]; exact get_last _ _) ix
        refine ⟨us, h1, by rw [h2.len]; omega, acc ++ [d], Hf6, iv, by rw [List.length_append]; show acc.length + 1 ≤ _; omega, s2.trans (s3.trans (e5.trans e6)), ?_⟩
        have okA := (ok2.swap ok6 (s3.trans (e5.trans e6)) (prefix_refl _)).put ix (o := .lst (us ++ [y])) (c := .lst (acc ++ [d])) ⟨us ++ [y], upd_same, h2.app (AtL.one av)⟩
        rw [show (Sta.mk S1.g S6.o).o = S1.o ++ [.lst acc] from eo, set_last] at okA
        exact okA
      | false =>
        obtain ⟨eo, iv⟩ := (show S5.o = S1.o ++ [.lst acc] ∧ Iv (i + 1) acc from k5)
        have pe : ps5 = ps1 ++ [D] := pre_eq p5 (by rw [ok5.plen, eo, List.length_append, lq]; exact Nat.le_refl _)
        subst pe
        refine iteF ⟨acc, Hf5, iv, by omega, s2.trans (s3.trans e5), ?_⟩
        have okA := ok2.swap ok5 (s3.trans e5) (prefix_refl _)
        rw [eo] at okA
        exact okA
  · rintro H2 ⟨acc, Hf2, i2, l2, s2, ok2⟩
    have ix : (ps1 ++ [D])[S1.o.length]? = some D := by rw [← l1]; exact get_last _ _
    obtain ⟨us, h1, h2⟩ := ok2.cell S1.o.length (.lst acc) D (get_last _ _) ix
    have np : Hf2 D = none := ok2.free D (List.mem_append_right _ (List.mem_singleton.mpr rfl))
    exact q (.val (.lst acc)) S1 ps1 _ H2 _ (kd acc l2 i2) (e1.trans (s2.trans (same_upd np))) p1 (ok2.freeze h1 ok1.ptrs) ⟨D, us, rfl, upd_same, h2.mono (same_upd np)⟩
/-! ### defs -/
variable (K C) in
/-- a def over data: from arguments and what is wanted of the answer -/
def spD (fx : List D → (D → Prop) → Prop) : Sp := fun vs H Q _ => ∃ (Hf : Hp) (ds : List D) (R : D → Prop), Same Hf H ∧ AtL K C Hf ds vs ∧ fx ds R ∧
  ∀ d, R d → ∀ H' Hf' v, Same H H' → Same Hf Hf' → Same Hf' H' → (∀ a, H a ≠ none → Hf a = none → Hf' a = none) → At K C Hf' d v → Q v H'
theorem rc_D {fx : List D → (D → Prop) → Prop} {E : XK} {ds : List D} {S : Sta} {Kn : KE} (h : fx ds fun d => Kn (.val d) S) : RcD K C (fun vs H Q => spD K C fx vs H Q E) (ds.map Sl.val) S Kn := by
  intro Z ps σ Hf H Q vs ok av q
  refine ⟨Hf, ds, _, ok.sub, sls_vals av, h, fun d k H' Hf' v e1 e2 e3 fr hv => ?_⟩
  exact q _ S ps Hf' H' v k e2 (prefix_refl _) (ok.grow e2 e1 e3 fr) hv
/-- what a result is behind the def's end -/
def ResD (r : Sl) (S : Sta) (d : D) : Prop := r = .val d ∨ ∃ n xs, r = .ptr n ∧ S.o[n]? = some (.lst xs) ∧ d = .lst xs
theorem slots_start {ps : List Addr} {Hf : Hp} : ∀ {ds : List D} {vs : List V} {i : Nat} {r : Sl} (n : Nat), AtL K C Hf ds vs → (ds.map Sl.val ++ List.replicate n Sl.any)[i]? = some r → r ≠ .any → ∃ v, (vs.map some ++ List.replicate n (none : Option V))[i]? = some (some v) ∧ SlAt K C ps Hf r v
  | [], vs, i, r, n, h, e, hr => by
    have h : vs = [] := h
    subst h
    have e2 : (List.replicate n Sl.any)[i]? = some r := e
    rw [List.getElem?_replicate] at e2
    split at e2
    · cases e2
      exact absurd rfl hr
    · cases e2
  | d :: ds, vs, 0, r, n, ⟨v, us, h1, h2, h3⟩, e, hr => by
    cases e
    exact ⟨v, by rw [h1]; rfl, h2⟩
  | d :: ds, vs, i + 1, r, n, ⟨v, us, h1, h2, h3⟩, e, hr => by
    obtain ⟨u, hu, hu2⟩ := slots_start (i := i) n h3 e hr
    exact ⟨u, by rw [h1]; exact hu, hu2⟩
theorem okD {P : Program} {w : World} {mg : Str → Option Value} {base : Heap} {x qual : Str} {st : Stmt} {f : Addr} {fd : FuncData} {N ps : List Str} {k : Nat} {fx : List D → (D → Prop) → Prop} (F : Fun K x qual st f fd) (S : FnScope N ps (defScope st)) (len : ∀ ds R, fx ds R → ds.length = ps.length)
    (hbody : ∀ (cdv : Value) (A : Around) (outer : List Env) (s : Shared) (H : Hp) (E : XK), Room k (A.deeper (envOfC qual (defScope st) s.heap.objs.size f cdv)) → ∀ ds R, fx ds R →
      ∃ t, PSs (cxOf CX0 P w K mg base N qual (defScope st) f cdv A outer s H E).nox (defBody st) t ∧ RdS K C 0 t ⟨ds.map Sl.val ++ List.replicate (N.length - ds.length) .any, []⟩ { nx := fun _ => R .non, rt := fun r S => ∃ d, ResD r S d ∧ R d }) :
    FnOk P w K mg base CX0 (k + 1) f fd ps (spD K C fx) := by
  refine F.ok S (fun vs H Q E h => ?_) (fun cdv A outer s H vs Q E hr h => ?_)
  · obtain ⟨Hf, ds, R, _, av, hx, _⟩ := h
    rw [av.len]
    exact len ds R hx
  · obtain ⟨Hf, ds, R, sub, av, hx, q⟩ := h
    obtain ⟨t, hd, rd⟩ := hbody cdv A outer s H E hr ds R hx
    refine ⟨t, hd, ?_⟩
    have ok0 : Ok K C (fun a => if Hf a = none then H a else none) ⟨ds.map Sl.val ++ List.replicate (N.length - ds.length) .any, []⟩ [] (L2.start N vs) Hf H := {
      sub := sub
      len := by
        unfold L2.start
        rw [List.length_append, List.length_append, List.length_map, List.length_map, List.length_replicate, List.length_replicate, av.len]
      slot := fun i r a b => by
        obtain ⟨v, h1, h2⟩ := slots_start (ps := []) _ av a b
        refine ⟨v, ?_, h2⟩
        unfold L2.start
        rw [av.len]
        exact h1
      plen := rfl
      cell := fun n c p a b => by cases b
      free := fun p hp => by cases hp
      nd := List.nodup_nil
      far := fun a o e => by
        by_cases z : Hf a = none
        · rw [if_pos z] at e
          exact ⟨e, z, List.not_mem_nil⟩
        · rw [if_neg z] at e
          cases e }
    have back : ∀ {S' : Sta} {ps' : List Addr} {σ' : L2.St} {Hf' H' : Hp}, Same Hf Hf' → Ok K C (fun a => if Hf a = none then H a else none) S' ps' σ' Hf' H' → Same H H' := fun {S' ps' σ' Hf' H'} e ok' a o ha => by
      by_cases z : Hf a = none
      · exact (ok'.far a o (by rw [if_pos z]; exact ha)).1
      · cases hq : Hf a with
        | none => exact absurd hq z
        | some u =>
          have h1 := sub a u hq
          rw [ha] at h1
          rw [h1]
          exact ok'.sub a u (e a u hq)
    have fr : ∀ {S' : Sta} {ps' : List Addr} {σ' : L2.St} {Hf' H' : Hp}, Ok K C (fun a => if Hf a = none then H a else none) S' ps' σ' Hf' H' → ∀ a, H a ≠ none → Hf a = none → Hf' a = none := fun ok' a h1 h2 => by
      cases hq : H a with
      | none => exact absurd hq h1
      | some u => exact (ok'.far a u (by rw [if_pos h2]; exact hq)).2.1
    refine rd _ [] (L2.start N vs) Hf H _ ok0 (fun S' ps' σ' Hf' H' k e p ok' => q .non k H' Hf' .non (back e ok') e ok'.sub (fr ok') rfl) (fun r S' ps' σ' Hf' H' v ⟨d, hres, k⟩ e p ok' hv => ?_) (fun _ _ _ _ _ z => z.elim) (fun _ _ _ _ _ z => z.elim)
    rcases hres with rfl | ⟨n, xs, rfl, hn, rfl⟩
    · exact q d k H' Hf' v (back e ok') e ok'.sub (fr ok') hv
    · obtain ⟨p, rfl, hp⟩ := hv
      obtain ⟨vs', h1, h2⟩ := ok'.cell n _ p hn hp
      have np : Hf' p = none := ok'.free p (List.mem_of_getElem? hp)
      refine q _ k H' (upd Hf' p (.lst vs')) (.ref p) (back e ok') (e.trans (same_upd np)) (fun b u hb => ?_) (fun a ha1 ha2 => ?_) ⟨p, vs', rfl, upd_same, h2.mono (same_upd np)⟩
      · by_cases z : b = p
        · subst z
          rw [upd_same] at hb
          rw [← hb]
          exact h1
        · rw [upd_ne z] at hb
          exact ok'.sub b u hb
      · have ne : a ≠ p := fun z => by
          subst z
          cases hq : H a with
          | none => exact ha1 hq
          | some u => exact (ok'.far a u (by rw [if_pos ha2]; exact hq)).2.2 (List.mem_of_getElem? hp)
        rw [upd_ne ne]
        exact fr ok' a ha1 ha2
end
end DL

set_option Elab.async false
set_option linter.all false
set_option maxRecDepth 100000
set_option maxHeartbeats 1200000
namespace DL
open PySem PySem.Spec PyProof.Rows L2 WP
section
variable {K : PySem.W.Frag} {C : Addr}
/-! ### calls with a box -/
theorem Ok.growB {Z Hf Hf' H H' : Hp} {S : Sta} {ps : List Addr} {σ : L2.St} (h : Ok K C Z S ps σ Hf H) {n : Nat} {b : Addr} (hn : S.o[n]? = some .box) (hb : ps[n]? = some b) (e1 : Same Hf Hf') (e2 : But b H H') (e3 : Same Hf' H') (hB : Box H' b) (nb : Hf' b = none) (fr : ∀ a, H a ≠ none → Hf a = none → Hf' a = none) : Ok K C Z S ps σ Hf' H' where
  sub := e3
  len := h.len
  slot := fun i r a c => by
    obtain ⟨v, h1, h2⟩ := h.slot i r a c
    exact ⟨v, h1, h2.mono e1 (List.prefix_refl _)⟩
  plen := h.plen
  cell := fun m c p a q => by
    by_cases e : p = b
    · subst e
      have l1 := List.getElem?_eq_some_iff.mp q
      have l2 := List.getElem?_eq_some_iff.mp hb
      have em : m = n := (List.getElem_inj h.nd).mp (l1.2.trans l2.2.symm)
      subst em
      rw [hn] at a
      cases a
      exact hB
    · exact (h.cell m c p a q).mono e1 fun o z => e2 _ _ z e
  free := fun p hp => by
    by_cases e : p = b
    · rw [e]
      exact nb
    · obtain ⟨m, hm, hm2⟩ := List.getElem_of_mem hp
      obtain ⟨q, h1, h2⟩ := h.get (n := m) (c := S.o[m]'(by rw [← h.plen]; exact hm)) (List.getElem?_eq_getElem _)
      rw [List.getElem?_eq_getElem hm, hm2] at h1
      cases h1
      obtain ⟨o, ho⟩ := h2.some
      exact fr p (by rw [ho]; exact fun z => nomatch z) (h.free p hp)
  nd := h.nd
  far := fun a o q => by
    obtain ⟨h1, h2, h3⟩ := h.far a o q
    have ne : a ≠ b := fun z => h3 (by rw [z]; exact List.mem_of_getElem? hb)
    exact ⟨e2 _ _ h1 ne, fr a (by rw [h1]; exact fun z => nomatch z) h2, h3⟩
theorem Ok.box {Z Hf H : Hp} {S : Sta} {ps : List Addr} {σ : L2.St} (h : Ok K C Z S ps σ Hf H) {n : Nat} {b : Addr} (hn : S.o[n]? = some .box) (hb : ps[n]? = some b) : Box H b ∧ Hf b = none := ⟨h.cell n _ b hn hb, h.free b (List.mem_of_getElem? hb)⟩
/-- things that are there only behind the call are new -/
theorem Ok.newB {Z Hf H H' : Hp} {S : Sta} {ps : List Addr} {σ : L2.St} (h : Ok K C Z S ps σ Hf H) {n : Nat} {b : Addr} (hn : S.o[n]? = some .box) (hb : ps[n]? = some b) (e2 : But b H H') (hB : Box H' b) : Ok K C Z S ps σ Hf H' :=
  h.growB hn hb (Same.refl _) e2 (fun a o q => e2 a o (h.sub a o q) (fun z => by rw [z, (h.box hn hb).2] at q; cases q)) hB (h.box hn hb).2 (fun _ _ z => z)
theorem Ok.know {Z Hf H : Hp} {S : Sta} {ps : List Addr} {σ : L2.St} {H0 : Hp} (h : Ok K C Z S ps σ Hf H) {p : Addr} {o : HO} (hp : H p = some o) (n0 : Hf p = none) (np : p ∉ ps) (nz : Z p = none) : Ok K C Z S ps σ (upd Hf p o) H where
  sub := fun b u q => by
    by_cases e : b = p
    · subst e
      rw [upd_same] at q
      rw [← q]
      exact hp
    · rw [upd_ne e] at q
      exact h.sub b u q
  len := h.len
  slot := fun i r a c => by
    obtain ⟨v, h1, h2⟩ := h.slot i r a c
    exact ⟨v, h1, h2.mono (same_upd n0) (List.prefix_refl _)⟩
  plen := h.plen
  cell := fun m c q a b => (h.cell m c q a b).mono (same_upd n0) fun _ z => z
  free := fun q hq => by
    rw [upd_ne (fun e => np (by rw [← e]; exact hq))]
    exact h.free q hq
  nd := h.nd
  far := fun a u q => by
    obtain ⟨h1, h2, h3⟩ := h.far a u q
    exact ⟨h1, by rw [upd_ne (fun e => by rw [e, nz] at q; cases q)]; exact h2, h3⟩
theorem Ok.noZ {Z Hf H : Hp} {S : Sta} {ps : List Addr} {σ : L2.St} (h : Ok K C Z S ps σ Hf H) {p : Addr} (n : H p = none) : Z p = none ∧ p ∉ ps ∧ Hf p = none := by
  refine ⟨?_, fun hp => ?_, h.sub.free n⟩
  · cases q : Z p with
    | none => rfl
    | some o =>
      have := (h.far p o q).1
      rw [n] at this
      cases this
  · obtain ⟨m, hm, hm2⟩ := List.getElem_of_mem hp
    obtain ⟨q, h1, h2⟩ := h.get (n := m) (c := S.o[m]'(by rw [← h.plen]; exact hm)) (List.getElem?_eq_getElem _)
    rw [List.getElem?_eq_getElem hm, hm2] at h1
    cases h1
    obtain ⟨o, ho⟩ := h2.some
    rw [n] at ho
    cases ho
variable (K C) in
/-- a def that draws from a box -/
def spB (fx : List D → (D → Prop) → Prop) : Sp := fun vs H Q _ => ∃ (Hf : Hp) (b : Addr) (us : List V) (ds : List D) (R : D → Prop), vs = .ref b :: us ∧ Same Hf H ∧ Hf b = none ∧ Box H b ∧ AtL K C Hf ds us ∧ fx ds R ∧
  ∀ d, R d → ∀ H' Hf' v, But b H H' → Box H' b → Same Hf Hf' → Same Hf' H' → Hf' b = none → (∀ a, H a ≠ none → Hf a = none → Hf' a = none) → At K C Hf' d v → Q v H'
theorem rc_B {fx : List D → (D → Prop) → Prop} {E : XK} {n : Nat} {ds : List D} {S : Sta} {Kn : KE} (hn : S.o[n]? = some .box) (h : fx ds fun d => Kn (.val d) S) : RcD K C (fun vs H Q => spB K C fx vs H Q E) (.ptr n :: ds.map Sl.val) S Kn := by
  intro Z ps σ Hf H Q vs ok av q
  obtain ⟨v, us, rfl, ⟨b, rfl, hb⟩, av⟩ := av
  obtain ⟨hB, nb⟩ := ok.box hn hb
  refine ⟨Hf, b, us, ds, _, rfl, ok.sub, nb, hB, sls_vals av, h, fun d k H' Hf' v e1 hB' e2 e3 nb' fr hv => ?_⟩
  exact q _ S ps Hf' H' v k e2 (prefix_refl _) (ok.growB hn hb e2 e1 e3 hB' nb' fr) hv
theorem okB {P : Program} {w : World} {mg : Str → Option Value} {base : Heap} {x qual : Str} {st : Stmt} {f : Addr} {fd : FuncData} {N ps : List Str} {k : Nat} {fx : List D → (D → Prop) → Prop} (F : Fun K x qual st f fd) (S : FnScope N ps (defScope st)) (len : ∀ ds R, fx ds R → ds.length + 1 = ps.length)
    (hbody : ∀ (cdv : Value) (A : Around) (outer : List Env) (s : Shared) (H : Hp) (E : XK), Room k (A.deeper (envOfC qual (defScope st) s.heap.objs.size f cdv)) → ∀ ds R, fx ds R →
      ∃ t, PSs (cxOf CX0 P w K mg base N qual (defScope st) f cdv A outer s H E).nox (defBody st) t ∧ RdS K C 1 t ⟨.ptr 0 :: (ds.map Sl.val ++ List.replicate (N.length - (ds.length + 1)) .any), [.box]⟩ { nx := fun S => S.o[0]? = some .box ∧ R .non, rt := fun r S => S.o[0]? = some .box ∧ ∃ d, ResD r S d ∧ R d }) :
    FnOk P w K mg base CX0 (k + 1) f fd ps (spB K C fx) := by
  refine F.ok S (fun vs H Q E h => ?_) (fun cdv A outer s H vs Q E hr h => ?_)
  · obtain ⟨Hf, b, us, ds, R, rfl, _, _, _, av, hx, _⟩ := h
    rw [List.length_cons, av.len]
    exact len ds R hx
  · obtain ⟨Hf, b, us, ds, R, rfl, sub, nb, hB, av, hx, q⟩ := h
    obtain ⟨t, hd, rd⟩ := hbody cdv A outer s H E hr ds R hx
    refine ⟨t, hd, ?_⟩
    have ok0 : Ok K C (fun a => if Hf a = none ∧ a ≠ b then H a else none) ⟨.ptr 0 :: (ds.map Sl.val ++ List.replicate (N.length - (ds.length + 1)) .any), [.box]⟩ [b] (L2.start N (.ref b :: us)) Hf H := {
      sub := sub
      len := by
        unfold L2.start
        simp only [List.length_append, List.length_cons, List.length_map, List.length_replicate, av.len]
        omega
      slot := fun i r a c => by
        unfold L2.start
        cases i with
        | zero =>
          cases a
          exact ⟨.ref b, rfl, b, rfl, rfl⟩
        | succ i =>
          obtain ⟨v, h1, h2⟩ := slots_start (ps := [b]) (i := i) _ av a c
          refine ⟨v, ?_, h2⟩
          rw [List.length_cons, av.len]
          exact h1
      plen := rfl
      cell := fun n c p a e => by
        cases n with
        | zero =>
          cases a
          cases e
          exact hB
        | succ n => cases e
      free := fun p hp => by
        rw [List.mem_singleton.mp hp]
        exact nb
      nd := List.pairwise_singleton ..
      far := fun a o e => by
        by_cases z : Hf a = none ∧ a ≠ b
        · rw [if_pos z] at e
          exact ⟨e, z.1, fun h => z.2 (List.mem_singleton.mp h)⟩
        · rw [if_neg z] at e
          cases e }
    have back : ∀ {S' : Sta} {ps' : List Addr} {σ' : L2.St} {Hf' H' : Hp}, Same Hf Hf' → Ok K C (fun a => if Hf a = none ∧ a ≠ b then H a else none) S' ps' σ' Hf' H' → But b H H' := fun {S' ps' σ' Hf' H'} e ok' a o ha ne => by
      by_cases z : Hf a = none
      · exact (ok'.far a o (by rw [if_pos ⟨z, ne⟩]; exact ha)).1
      · cases hq : Hf a with
        | none => exact absurd hq z
        | some u =>
          have h1 := sub a u hq
          rw [ha] at h1
          rw [h1]
          exact ok'.sub a u (e a u hq)
    have fr : ∀ {S' : Sta} {ps' : List Addr} {σ' : L2.St} {Hf' H' : Hp}, Hf' b = none → Ok K C (fun a => if Hf a = none ∧ a ≠ b then H a else none) S' ps' σ' Hf' H' → ∀ a, H a ≠ none → Hf a = none → Hf' a = none := fun nb' ok' a h1 h2 => by
      by_cases ab : a = b
      · rw [ab]
        exact nb'
      · cases hq : H a with
        | none => exact absurd hq h1
        | some u => exact (ok'.far a u (by rw [if_pos ⟨h2, ab⟩]; exact hq)).2.1
    have bx : ∀ {S' : Sta} {ps' : List Addr} {σ' : L2.St} {Hf' H' : Hp}, S'.o[0]? = some .box → Kp 1 [b] ps' → Ok K C (fun a => if Hf a = none ∧ a ≠ b then H a else none) S' ps' σ' Hf' H' → Box H' b ∧ Hf' b = none := fun h0 p ok' => ok'.box h0 (p 0 b (by decide) rfl)
    refine rd _ [b] (L2.start N (.ref b :: us)) Hf H _ ok0 (fun S' ps' σ' Hf' H' ⟨k0, k⟩ e p ok' => ?_) (fun r S' ps' σ' Hf' H' v ⟨k0, d, hres, k⟩ e p ok' hv => ?_) (fun _ _ _ _ _ z => z.elim) (fun _ _ _ _ _ z => z.elim)
    · obtain ⟨h1, h2⟩ := bx k0 p ok'
      exact q .non k H' Hf' .non (back e ok') h1 e ok'.sub h2 (fr h2 ok') rfl
    · obtain ⟨h1, h2⟩ := bx k0 p ok'
      rcases hres with rfl | ⟨n, xs, rfl, hn, rfl⟩
      · exact q d k H' Hf' v (back e ok') h1 e ok'.sub h2 (fr h2 ok') hv
      · obtain ⟨t, rfl, ht⟩ := hv
        obtain ⟨vs', h3, h4⟩ := ok'.cell n _ t hn ht
        have np : Hf' t = none := ok'.free t (List.mem_of_getElem? ht)
        have tb : t ≠ b := fun z => by
          subst z
          have l1 := List.getElem?_eq_some_iff.mp ht
          have l2 := List.getElem?_eq_some_iff.mp (p 0 t (by decide) rfl)
          have en : n = 0 := (List.getElem_inj ok'.nd).mp (l1.2.trans l2.2.symm)
          subst en
          rw [k0] at hn
          cases hn
        refine q _ k H' (upd Hf' t (.lst vs')) (.ref t) (back e ok') h1 (e.trans (same_upd np)) (fun c u hb => ?_) (by rw [upd_ne (Ne.symm tb)]; exact h2) (fun a ha1 ha2 => ?_) ⟨t, vs', rfl, upd_same, h4.mono (same_upd np)⟩
        · by_cases z : c = t
          · subst z
            rw [upd_same] at hb
            rw [← hb]
            exact h3
          · rw [upd_ne z] at hb
            exact ok'.sub c u hb
        · have ne : a ≠ t := fun z => by
            subst z
            cases hq : H a with
            | none => exact ha1 hq
            | some u => exact (ok'.far a u (by rw [if_pos ⟨ha2, tb⟩]; exact hq)).2.2 (List.mem_of_getElem? ht)
          rw [upd_ne ne]
          exact fr h2 ok' a ha1 ha2
end
end DL

set_option Elab.async false
set_option linter.all false
set_option maxRecDepth 100000
set_option maxHeartbeats 1200000
namespace DL
open PySem PySem.Spec PyProof.Rows L2 WP
abbrev nat (n : Nat) : D := .int (n : Nat)
abbrev txd (ds : List Nat) : D := .str (tx ds)
abbrev drawn (s w k : Nat) (tb : List Nat) : D := .tup [nat s, nat w, nat k, .lst (tb.map nat)]
section
variable {K : PySem.W.Frag} {C : Addr} {H Hf : Hp} {S : Sta} {Kn : KE} {E : XK}
theorem atL_nats {tb : List Nat} {vs : List V} : AtL K C H (tb.map nat) vs ↔ vs = tb.map iv := AtL.map_iff fun _ _ => Iff.rfl
theorem atL_txs {l : List (List Nat)} {vs : List V} : AtL K C H (l.map txd) vs ↔ vs = l.map tv := AtL.map_iff fun _ _ => Iff.rfl
theorem at_drawn {s w k : Nat} {tb : List Nat} {v : V} : At K C H (drawn s w k tb) v ↔ ∃ d p, v = .ref d ∧ DrawnAt H d p s w k tb := by
  constructor
  · rintro ⟨a, vs, rfl, h, x, u1, rfl, h1, y, u2, rfl, h2, z, u3, rfl, h3, t, u4, rfl, ⟨p, us, rfl, h5, h6⟩, e⟩
    have h1 : x = iv s := h1
    have h2 : y = iv w := h2
    have h3 : z = iv k := h3
    have e : u4 = [] := e
    subst h1 h2 h3 e
    rw [atL_nats] at h6
    subst h6
    exact ⟨a, p, rfl, h, h5⟩
  · rintro ⟨d, p, rfl, h1, h2⟩
    exact ⟨d, _, rfl, h1, _, _, rfl, rfl, _, _, rfl, rfl, _, _, rfl, rfl, _, _, rfl, ⟨p, _, rfl, h2, atL_nats.mpr rfl⟩, rfl⟩
/-! ### values: what comes of them, with the state as it was -/
theorem rc_of {r : List V → Hp → VK → Prop} {as : List Sl} (k : ∀ Z ps σ Hf H Q vs, Ok K C Z S ps σ Hf H → SlsAt K C ps Hf as vs → (∀ d v, Kn (.val d) S → At K C Hf d v → Q v H) →
    (∀ d p o, Kn (.val d) S → H p = none → At K C (upd Hf p o) d (.ref p) → Q (.ref p) (upd H p o)) → r vs H Q) : RcD K C r as S Kn := fun Z ps σ Hf H Q vs ok ha q =>
  k Z ps σ Hf H Q vs ok ha (fun d v kk hv => q _ S ps Hf H v kk (Same.refl _) (prefix_refl _) ok hv) fun d p o kk np hv => q _ S ps _ _ _ kk (same_upd (ok.sub.free np)) (prefix_refl _) (ok.new np o) hv
theorem r2_of2 {r : R2} {a b : Sl} (k : ∀ Z ps σ Hf H Q x y, Ok K C Z S ps σ Hf H → SlAt K C ps Hf a x → SlAt K C ps Hf b y → (∀ d v, Kn (.val d) S → At K C Hf d v → Q v H) →
    (∀ d p o, Kn (.val d) S → H p = none → At K C (upd Hf p o) d (.ref p) → Q (.ref p) (upd H p o)) → r x y H Q) : R2D K C r a b S Kn := fun Z ps σ Hf H Q x y ok ha hb q =>
  k Z ps σ Hf H Q x y ok ha hb (fun d v kk hv => q _ S ps Hf H v kk (Same.refl _) (prefix_refl _) ok hv) fun d p o kk np hv => q _ S ps _ _ _ kk (same_upd (ok.sub.free np)) (prefix_refl _) (ok.new np o) hv
theorem sls1 {ps : List Addr} {r : Sl} {vs : List V} (h : SlsAt K C ps Hf [r] vs) : ∃ v, vs = [v] ∧ SlAt K C ps Hf r v := by
  obtain ⟨v, us, rfl, h1, h2⟩ := h
  have h2 : us = [] := h2
  exact ⟨v, by rw [h2], h1⟩
theorem sls2 {ps : List Addr} {r q : Sl} {vs : List V} (h : SlsAt K C ps Hf [r, q] vs) : ∃ v w, vs = [v, w] ∧ SlAt K C ps Hf r v ∧ SlAt K C ps Hf q w := by
  obtain ⟨v, us, rfl, h1, h2⟩ := h
  obtain ⟨w, rfl, h3⟩ := sls1 h2
  exact ⟨v, w, rfl, h1, h3⟩
theorem sls3 {ps : List Addr} {r q t : Sl} {vs : List V} (h : SlsAt K C ps Hf [r, q, t] vs) : ∃ v w u, vs = [v, w, u] ∧ SlAt K C ps Hf r v ∧ SlAt K C ps Hf q w ∧ SlAt K C ps Hf t u := by
  obtain ⟨v, us, rfl, h1, h2⟩ := h
  obtain ⟨w, u, rfl, h3, h4⟩ := sls2 h2
  exact ⟨v, w, u, rfl, h1, h3, h4⟩
theorem same_frz {n : Hp} : True := trivial
/-! ### built-ins -/
theorem rc_len_str {z : Str} (hz : z.length ≤ sizeLine) (k : Kn (.val (.int z.length)) S) : RcD K C (fun xs H Q => ∃ z, xs = [.str z] ∧ z.length ≤ sizeLine ∧ Q (.int z.length) H) [.val (.str z)] S Kn :=
  rc_of fun Z ps σ Hf H Q vs ok ha q _ => by
    obtain ⟨v, rfl, (hv : v = .str z)⟩ := sls1 ha
    subst hv
    exact ⟨z, rfl, hz, q _ _ k rfl⟩
abbrev rLenSeq (K : PySem.W.Frag) : List V → Hp → VK → Prop := fun xs H Q => ∃ p ys, xs = [.ref p] ∧ (SqL K H p ys ∨ SqT K H p ys) ∧ Q (.int ys.length) H
theorem rc_len_lst {ds : List D} (k : Kn (.val (.int ds.length)) S) : RcD K C (rLenSeq K) [.val (.lst ds)] S Kn :=
  rc_of fun Z ps σ Hf H Q vs ok ha q _ => by
    obtain ⟨v, rfl, a, us, rfl, h1, h2⟩ := sls1 ha
    refine ⟨a, us, rfl, .inl (.inl (.inl (ok.sub _ _ h1))), q _ _ k ?_⟩
    rw [h2.len]
    rfl
theorem rc_len_tup {ds : List D} (k : Kn (.val (.int ds.length)) S) : RcD K C (rLenSeq K) [.val (.tup ds)] S Kn :=
  rc_of fun Z ps σ Hf H Q vs ok ha q _ => by
    obtain ⟨v, rfl, a, us, rfl, h1, h2⟩ := sls1 ha
    refine ⟨a, us, rfl, .inr (.inl (.inl (ok.sub _ _ h1))), q _ _ k ?_⟩
    rw [h2.len]
    rfl
theorem rc_len_scr {ns : List Int} (k : Kn (.val (.int ns.length)) S) : RcD K C (rLenSeq K) [.val (.scr ns)] S Kn :=
  rc_of fun Z ps σ Hf H Q vs ok ha q _ => by
    obtain ⟨v, rfl, a, rfl, h1⟩ := sls1 ha
    refine ⟨a, _, rfl, .inl (ok.sub.seq h1), q _ _ k ?_⟩
    rw [List.length_map]
    rfl
theorem rc_len_own {n : Nat} {ds : List D} (hn : S.o[n]? = some (.lst ds)) (k : Kn (.val (.int ds.length)) S) : RcD K C (rLenSeq K) [.ptr n] S Kn :=
  rc_of fun Z ps σ Hf H Q vs ok ha q _ => by
    obtain ⟨v, rfl, p, rfl, hp⟩ := sls1 ha
    obtain ⟨us, h1, h2⟩ := ok.cell n _ p hn hp
    refine ⟨p, us, rfl, .inl (.inl (.inl h1)), q _ _ k ?_⟩
    rw [h2.len]
    rfl
theorem rc_abs {i : Int} (k : Kn (.val (.int (if i < 0 then -i else i))) S) : RcD K C (fun xs H Q => ∃ i, xs = [.int i] ∧ Q (.int (if i < 0 then -i else i)) H) [.val (.int i)] S Kn :=
  rc_of fun Z ps σ Hf H Q vs ok ha q _ => by
    obtain ⟨v, rfl, (hv : v = .int i)⟩ := sls1 ha
    subst hv
    exact ⟨i, rfl, q _ _ k rfl⟩
theorem rc_max2 {i j : Int} (k : Kn (.val (.int (if j > i then j else i))) S) : RcD K C (fun xs H Q => ∃ i j, xs = [.int i, .int j] ∧ Q (.int (if j > i then j else i)) H) [.val (.int i), .val (.int j)] S Kn :=
  rc_of fun Z ps σ Hf H Q vs ok ha q _ => by
    obtain ⟨v, w, rfl, (hv : v = .int i), (hw : w = .int j)⟩ := sls2 ha
    subst hv hw
    exact ⟨i, j, rfl, q _ _ k rfl⟩
theorem rc_min2 {i j : Int} (k : Kn (.val (.int (if j < i then j else i))) S) : RcD K C (fun xs H Q => ∃ i j, xs = [.int i, .int j] ∧ Q (.int (if j < i then j else i)) H) [.val (.int i), .val (.int j)] S Kn :=
  rc_of fun Z ps σ Hf H Q vs ok ha q _ => by
    obtain ⟨v, w, rfl, (hv : v = .int i), (hw : w = .int j)⟩ := sls2 ha
    subst hv hw
    exact ⟨i, j, rfl, q _ _ k rfl⟩
abbrev rInt1 : List V → Hp → VK → Prop := fun xs H Q => (∃ i, xs = [.int i] ∧ Q (.int i) H) ∨ ∃ k, xs = [.bl k] ∧ Q (.int (if k then 1 else 0)) H
theorem rc_int {i : Int} (k : Kn (.val (.int i)) S) : RcD K C rInt1 [.val (.int i)] S Kn :=
  rc_of fun Z ps σ Hf H Q vs ok ha q _ => by
    obtain ⟨v, rfl, (hv : v = .int i)⟩ := sls1 ha
    subst hv
    exact .inl ⟨i, rfl, q _ _ k rfl⟩
theorem rc_intB {b : Bool} (k : Kn (.val (.int (if b then 1 else 0))) S) : RcD K C rInt1 [.val (.bl b)] S Kn :=
  rc_of fun Z ps σ Hf H Q vs ok ha q _ => by
    obtain ⟨v, rfl, (hv : v = .bl b)⟩ := sls1 ha
    subst hv
    exact .inr ⟨b, rfl, q _ _ k rfl⟩
theorem rc_sorted {ns : List Int} (k : ∀ ns' : List Int, ns'.Perm ns → ns'.Pairwise (· ≤ ·) → Kn (.val (.lst (ns'.map D.int))) S) : RcD K C (rSortedI K) [.val (.lst (ns.map D.int))] S Kn :=
  rc_of fun Z ps σ Hf H Q vs ok ha _ q => by
    obtain ⟨v, rfl, a, us, rfl, h1, h2⟩ := sls1 ha
    rw [AtL.ints] at h2
    subst h2
    exact ⟨a, ns, rfl, .inl (.inl (ok.sub _ _ h1)), fun ns' p pm asc np => q _ p _ (k ns' pm asc) np ⟨p, _, rfl, upd_same, AtL.ints.mpr rfl⟩⟩
abbrev rListOf (K : PySem.W.Frag) : List V → Hp → VK → Prop := fun xs H Q => ∃ p ys, xs = [.ref p] ∧ (SqL K H p ys ∨ SqT K H p ys) ∧ ∀ l, H l = none → Q (.ref l) (upd H l (.lst ys))
theorem rc_list_lst {ds : List D} (k : Kn (.val (.lst ds)) S) : RcD K C (rListOf K) [.val (.lst ds)] S Kn :=
  rc_of fun Z ps σ Hf H Q vs ok ha _ q => by
    obtain ⟨v, rfl, a, us, rfl, h1, h2⟩ := sls1 ha
    exact ⟨a, us, rfl, .inl (.inl (.inl (ok.sub _ _ h1))), fun l nl => q _ l _ k nl ⟨l, us, rfl, upd_same, h2.mono (same_upd (ok.sub.free nl))⟩⟩
theorem rc_list_tup {ds : List D} (k : Kn (.val (.lst ds)) S) : RcD K C (rListOf K) [.val (.tup ds)] S Kn :=
  rc_of fun Z ps σ Hf H Q vs ok ha _ q => by
    obtain ⟨v, rfl, a, us, rfl, h1, h2⟩ := sls1 ha
    exact ⟨a, us, rfl, .inr (.inl (.inl (ok.sub _ _ h1))), fun l nl => q _ l _ k nl ⟨l, us, rfl, upd_same, h2.mono (same_upd (ok.sub.free nl))⟩⟩
abbrev rTupleOf (K : PySem.W.Frag) : List V → Hp → VK → Prop := fun xs H Q => ∃ p ys, xs = [.ref p] ∧ ((SqL K H p ys ∧ ∀ l, H l = none → Q (.ref l) (upd H l (.tup ys))) ∨ (SqT K H p ys ∧ Q (.ref p) H))
theorem rc_tuple_lst {ds : List D} (k : Kn (.val (.tup ds)) S) : RcD K C (rTupleOf K) [.val (.lst ds)] S Kn :=
  rc_of fun Z ps σ Hf H Q vs ok ha _ q => by
    obtain ⟨v, rfl, a, us, rfl, h1, h2⟩ := sls1 ha
    exact ⟨a, us, rfl, .inl ⟨.inl (.inl (ok.sub _ _ h1)), fun l nl => q _ l _ k nl ⟨l, us, rfl, upd_same, h2.mono (same_upd (ok.sub.free nl))⟩⟩⟩
theorem rc_tuple_tup {ds : List D} (k : Kn (.val (.tup ds)) S) : RcD K C (rTupleOf K) [.val (.tup ds)] S Kn :=
  rc_of fun Z ps σ Hf H Q vs ok ha q _ => by
    obtain ⟨v, rfl, a, us, rfl, h1, h2⟩ := sls1 ha
    exact ⟨a, us, rfl, .inr ⟨.inl (.inl (ok.sub _ _ h1)), q _ _ k ⟨a, us, rfl, h1, h2⟩⟩⟩
/-! ### items -/
theorem atI_len {α β : Type} {xs : List α} {ys : List β} {i : Int} {x : α} (e : xs.length = ys.length) (h : atI xs i = some x) : ∃ j : Nat, xs[j]? = some x ∧ ∀ y, ys[j]? = some y → atI ys i = some y := by
  unfold atI at h ⊢
  rw [← e]
  cases q : ixN xs.length i with
  | none =>
    rw [q] at h
    cases h
  | some j =>
    rw [q] at h
    exact ⟨j, h, fun y hy => hy⟩
theorem r2_ixT {ds : List D} {i : Int} {d : D} (h : atI ds i = some d) (k : Kn (.val d) S) : R2D K C (rIxT K) (.val (.tup ds)) (.val (.int i)) S Kn :=
  r2_of2 fun Z ps σ Hf H Q x y ok ha hb q _ => by
    obtain ⟨a, us, rfl, h1, h2⟩ := ha
    have hb : y = .int i := hb
    subst hb
    obtain ⟨j, hj, hj2⟩ := atI_len h2.len.symm h
    obtain ⟨u, hu, hu2⟩ := h2.get hj
    exact ⟨a, us, i, u, rfl, rfl, .inl (.inl (ok.sub _ _ h1)), hj2 u hu, q _ _ k hu2⟩
theorem r2_ixL {ds : List D} {i : Int} {d : D} (h : atI ds i = some d) (k : Kn (.val d) S) : R2D K C (rIxL K) (.val (.lst ds)) (.val (.int i)) S Kn :=
  r2_of2 fun Z ps σ Hf H Q x y ok ha hb q _ => by
    obtain ⟨a, us, rfl, h1, h2⟩ := ha
    have hb : y = .int i := hb
    subst hb
    obtain ⟨j, hj, hj2⟩ := atI_len h2.len.symm h
    obtain ⟨u, hu, hu2⟩ := h2.get hj
    exact ⟨a, us, i, u, rfl, rfl, .inl (.inl (ok.sub _ _ h1)), hj2 u hu, q _ _ k hu2⟩
theorem r2_ixLO {n : Nat} {ds : List D} {i : Int} {d : D} (hn : S.o[n]? = some (.lst ds)) (h : atI ds i = some d) (k : Kn (.val d) S) : R2D K C (rIxL K) (.ptr n) (.val (.int i)) S Kn :=
  r2_of2 fun Z ps σ Hf H Q x y ok ha hb q _ => by
    obtain ⟨p, rfl, hp⟩ := ha
    obtain ⟨us, h1, h2⟩ := ok.cell n _ p hn hp
    have hb : y = .int i := hb
    subst hb
    obtain ⟨j, hj, hj2⟩ := atI_len h2.len.symm h
    obtain ⟨u, hu, hu2⟩ := h2.get hj
    exact ⟨p, us, i, u, rfl, rfl, .inl (.inl h1), hj2 u hu, q _ _ k hu2⟩
theorem r2_ixS {z : Str} {i : Int} {c : Nat} (hz : z.length ≤ sizeLine) (h : atI z.cps.toList i = some c) (k : Kn (.val (.str ⟨#[c]⟩)) S) : R2D K C rIxS (.val (.str z)) (.val (.int i)) S Kn :=
  r2_of2 fun Z ps σ Hf H Q x y ok ha hb q _ => by
    have ha : x = .str z := ha
    have hb : y = .int i := hb
    subst ha hb
    exact ⟨z, i, c, rfl, rfl, hz, h, q _ _ k rfl⟩
/-! ### slices -/
variable (K C) in
def RdO (t : TO) (S : Sta) (Kn : Option Int → Sta → Prop) : Prop := ∀ (Z : Hp) (ps : List Addr) (σ : L2.St) (Hf H : Hp) (Q : Option Int → Hp → Prop), Ok K C Z S ps σ Hf H →
  (∀ b S' ps' Hf' H', Kn b S' → Same Hf Hf' → ps <+: ps' → Ok K C Z S' ps' σ Hf' H' → Q b H') → t σ H Q
theorem ro_no {Kn : Option Int → Sta → Prop} (k : Kn none S) : RdO K C tNoPart S Kn := fun Z ps σ Hf H Q ok q => q none S ps Hf H k (Same.refl _) (prefix_refl _) ok
theorem ro_some {te : TE} {Kn : Option Int → Sta → Prop} (h : RdE K C te S fun r S1 => ∃ i, r = .val (.int i) ∧ Kn (some i) S1) : RdO K C (tPart te) S Kn := by
  intro Z ps σ Hf H Q ok q
  refine h Z ps σ Hf H _ ok fun r S1 ps1 Hf1 H1 v ⟨i, er, kk⟩ e1 p1 ok1 av => ?_
  subst er
  have av : v = .int i := av
  exact ⟨i, av, q _ S1 ps1 Hf1 H1 kk e1 p1 ok1⟩
variable (K C) in
def RsD (r : V → Option Int → Option Int → Hp → VK → Prop) (a : Sl) (lo hi : Option Int) (S : Sta) (Kn : KE) : Prop := ∀ (Z : Hp) (ps : List Addr) (σ : L2.St) (Hf H : Hp) (Q : VK) (x : V), Ok K C Z S ps σ Hf H → SlAt K C ps Hf a x →
  (∀ r S' ps' Hf' H' v, Kn r S' → Same Hf Hf' → ps <+: ps' → Ok K C Z S' ps' σ Hf' H' → SlAt K C ps' Hf' r v → Q v H') → r x lo hi H Q
theorem rd_slice {r : V → Option Int → Option Int → Hp → VK → Prop} {te : TE} {tl th : TO} (h : RdE K C te S fun a S1 => RdO K C tl S1 fun lo S2 => RdO K C th S2 fun hi S3 => RsD K C r a lo hi S3 Kn) : RdE K C (tSl r te tl th) S Kn := by
  intro Z ps σ Hf H Q ok q
  refine h Z ps σ Hf H _ ok fun a S1 ps1 Hf1 H1 x k1 e1 p1 ok1 ax => ?_
  refine k1 Z ps1 σ Hf1 H1 _ ok1 fun lo S2 ps2 Hf2 H2 k2 e2 p2 ok2 => ?_
  refine k2 Z ps2 σ Hf2 H2 _ ok2 fun hi S3 ps3 Hf3 H3 k3 e3 p3 ok3 => ?_
  exact k3 Z ps3 σ Hf3 H3 Q x ok3 (ax.mono (e2.trans e3) (p2.trans p3)) fun r S' ps' Hf' H' v kk e p ok' av => q r S' ps' Hf' H' v kk (e1.trans (e2.trans (e3.trans e))) (p1.trans (p2.trans (p3.trans p))) ok' av
theorem rs_str {z : Str} {lo hi : Option Int} (hz : z.length ≤ sizeLine) (k : Kn (.val (.str (cutS z lo hi))) S) : RsD K C rSlS (.val (.str z)) lo hi S Kn := fun Z ps σ Hf H Q x ok (ha : x = _) q =>
  ⟨z, ha, hz, q _ S ps Hf H _ k (Same.refl _) (prefix_refl _) ok rfl⟩
/-- a stretch of a text of letters -/
theorem rs_tx {ds : List Nat} {lo hi : Option Int} {a c : Nat} (hl : ds.length ≤ 100000) (h1 : lo = some (a : Int)) (h2 : hi = some (c : Int)) (k : Kn (.val (txd ((ds.drop a).take (c - a)))) S) : RsD K C rSlS (.val (txd ds)) lo hi S Kn := by
  subst h1 h2
  exact rs_str (by rw [tx_len]; exact Nat.le_trans hl (by decide)) (by rw [cut_mid]; exact k)
def cutD (xs : List D) (lo hi : Option Int) : List D := (xs.drop (HT.sIx xs.length 0 lo)).take (HT.sIx xs.length xs.length hi - HT.sIx xs.length 0 lo)
theorem atL_cut {ds : List D} {vs : List V} {lo hi : Option Int} (h : AtL K C Hf ds vs) : AtL K C Hf (cutD ds lo hi) (cutV vs lo hi) := by
  unfold cutD cutV
  rw [h.len]
  exact (h.drop _).take _
theorem rs_lst {ds : List D} {lo hi : Option Int} (k : Kn (.val (.lst (cutD ds lo hi))) S) : RsD K C (rSlL K) (.val (.lst ds)) lo hi S Kn := fun Z ps σ Hf H Q x ok ha q => by
  obtain ⟨a, vs, rfl, h1, h2⟩ := ha
  refine ⟨a, vs, rfl, .inl (.inl (ok.sub _ _ h1)), fun p np => ?_⟩
  have n1 := ok.sub.free np
  exact q _ S ps _ _ _ k (same_upd n1) (prefix_refl _) (ok.new np _) ⟨p, _, rfl, upd_same, (atL_cut h2).mono (same_upd n1)⟩
theorem rs_tup {ds : List D} {lo hi : Option Int} (k : Kn (.val (.tup (cutD ds lo hi))) S) : RsD K C (rSlA K) (.val (.tup ds)) lo hi S Kn := fun Z ps σ Hf H Q x ok ha q => by
  obtain ⟨a, vs, rfl, h1, h2⟩ := ha
  refine ⟨a, vs, rfl, .inl (.inl (ok.sub _ _ h1)), fun ⟨z1, z2⟩ => ?_, fun _ p np => ?_⟩
  · refine q _ S ps Hf H _ k (Same.refl _) (prefix_refl _) ok ⟨a, vs, rfl, h1, ?_⟩
    have e : cutD ds lo hi = ds := by
      unfold cutD
      rw [h2.len] at z1 z2
      rw [z1, z2, List.drop_zero, Nat.sub_zero, List.take_length]
    rw [e]
    exact h2
  · have n1 := ok.sub.free np
    exact q _ S ps _ _ _ k (same_upd n1) (prefix_refl _) (ok.new np _) ⟨p, _, rfl, upd_same, (atL_cut h2).mono (same_upd n1)⟩
/-! ### sums of texts, lists, tuples; one in another -/
theorem r2_catS {y z : Str} (hz : y.length + z.length ≤ sizeLine) (k : Kn (.val (.str (y ++ z))) S) : R2D K C (fun x y H Q => ∃ i j, x = .str i ∧ y = .str j ∧ i.length + j.length ≤ sizeLine ∧ Q (.str (i ++ j)) H) (.val (.str y)) (.val (.str z)) S Kn :=
  r2_of2 fun Z ps σ Hf H Q a b ok (ha : a = _) (hb : b = _) q _ => ⟨y, z, ha, hb, hz, q _ _ k rfl⟩
theorem r2_catL {ds es : List D} (hl : ds.length + es.length ≤ sizeLine) (k : Kn (.val (.lst (ds ++ es))) S) : R2D K C rCat (.val (.lst ds)) (.val (.lst es)) S Kn :=
  r2_of2 fun Z ps σ Hf H Q x y ok ha hb _ q => by
    obtain ⟨a, us, rfl, h1, h2⟩ := ha
    obtain ⟨b, ws, rfl, h3, h4⟩ := hb
    refine ⟨a, b, us, ws, rfl, rfl, ok.sub _ _ h1, ok.sub _ _ h3, by rw [h2.len, h4.len]; exact hl, fun p np => ?_⟩
    have n1 := ok.sub.free np
    exact q _ p _ k np ⟨p, _, rfl, upd_same, (h2.app h4).mono (same_upd n1)⟩
theorem r2_catT {ds es : List D} (hl : ds.length + es.length ≤ sizeLine) (k : Kn (.val (.tup (ds ++ es))) S) : R2D K C (rCatA K) (.val (.tup ds)) (.val (.tup es)) S Kn :=
  r2_of2 fun Z ps σ Hf H Q x y ok ha hb q0 q => by
    obtain ⟨a, us, rfl, h1, h2⟩ := ha
    obtain ⟨b, ws, rfl, h3, h4⟩ := hb
    refine ⟨a, b, us, ws, rfl, rfl, .inl (.inl (ok.sub _ _ h1)), .inl (.inl (ok.sub _ _ h3)), by rw [h2.len, h4.len]; exact hl, fun e => ?_, fun _ e => ?_, fun _ _ p np => ?_⟩
    · subst e
      have := h2.len
      cases ds with
      | nil => exact q0 _ _ k ⟨b, ws, rfl, h3, h4⟩
      | cons d ds => cases this
    · subst e
      have := h4.len
      cases es with
      | nil => exact q0 _ _ k ⟨a, us, rfl, h1, by rw [List.append_nil]; exact h2⟩
      | cons d es => cases this
    · have n1 := ok.sub.free np
      exact q _ p _ k np ⟨p, _, rfl, upd_same, (h2.app h4).mono (same_upd n1)⟩
theorem atL_rep {ds : List D} {vs : List V} (h : AtL K C Hf ds vs) : ∀ n : Nat, AtL K C Hf (List.replicate n ds).flatten (List.replicate n vs).flatten
  | 0 => rfl
  | n + 1 => by
    rw [List.replicate_succ, List.replicate_succ, List.flatten_cons, List.flatten_cons]
    exact h.app (atL_rep h n)
/-! ### lists of one's own are changed -/
theorem rd_append {i n : Nat} {xs0 : List D} {te : TE} (hg : S.g[i]? = some (.ptr n)) (hn : S.o[n]? = some (.lst xs0)) (h : RdE K C te S fun r S1 => ∃ d xs, r = .val d ∧ S1.o[n]? = some (.lst xs) ∧ xs.length < sizeLine ∧ Kn (.val .non) (S1.cell n (.lst (xs ++ [d])))) : RdE K C (tBM K "list" rAppend (tVar i) (tCons te tNil)) S Kn := by
  intro Z ps σ Hf H Q ok q
  obtain ⟨v, h1, p, rfl, hp⟩ := ok.slot i _ hg (fun z => by cases z)
  obtain ⟨us0, hL, _⟩ := ok.cell n _ p hn hp
  refine ⟨_, h1, .inl ⟨rfl, _, .inl (.inl hL)⟩, ?_⟩
  refine h Z ps σ Hf H _ ok fun r S1 ps1 Hf1 H1 x ⟨d, xs, er, hx, hl, kk⟩ e1 p1 ok1 ax => ?_
  subst er
  have hp1 : ps1[n]? = some p := by
    obtain ⟨t, rfl⟩ := p1
    rw [List.getElem?_append_left (List.getElem?_eq_some_iff.mp hp).1]
    exact hp
  obtain ⟨us, h3, h4⟩ := ok1.cell n _ p hx hp1
  refine ⟨p, us, x, rfl, rfl, h3, by rw [h4.len]; exact hl, ?_⟩
  exact q _ _ ps1 Hf1 _ _ kk e1 p1 (ok1.put hp1 (o := .lst (us ++ [x])) (c := .lst (xs ++ [d])) (show CellAt K C Hf1 _ p (.lst (xs ++ [d])) from ⟨us ++ [x], upd_same, h4.app (AtL.one ax)⟩)) rfl
theorem rd_extend {i n : Nat} {xs0 : List D} {te : TE} (hg : S.g[i]? = some (.ptr n)) (hn : S.o[n]? = some (.lst xs0)) (h : RdE K C te S fun r S1 => ∃ ds xs, r = .val (.lst ds) ∧ S1.o[n]? = some (.lst xs) ∧ xs.length + ds.length ≤ sizeLine ∧ Kn (.val .non) (S1.cell n (.lst (xs ++ ds)))) : RdE K C (tBM K "list" rExtend (tVar i) (tCons te tNil)) S Kn := by
  intro Z ps σ Hf H Q ok q
  obtain ⟨v, h1, p, rfl, hp⟩ := ok.slot i _ hg (fun z => by cases z)
  obtain ⟨us0, hL, _⟩ := ok.cell n _ p hn hp
  refine ⟨_, h1, .inl ⟨rfl, _, .inl (.inl hL)⟩, ?_⟩
  refine h Z ps σ Hf H _ ok fun r S1 ps1 Hf1 H1 x ⟨ds, xs, er, hx, hl, kk⟩ e1 p1 ok1 ax => ?_
  subst er
  obtain ⟨a, ws, rfl, h5, h6⟩ := ax
  have hp1 : ps1[n]? = some p := by
    obtain ⟨t, rfl⟩ := p1
    rw [List.getElem?_append_left (List.getElem?_eq_some_iff.mp hp).1]
    exact hp
  obtain ⟨us, h3, h4⟩ := ok1.cell n _ p hx hp1
  refine ⟨p, a, us, ws, rfl, rfl, h3, ok1.sub _ _ h5, by rw [h4.len, h6.len]; exact hl, ?_⟩
  exact q _ _ ps1 Hf1 _ _ kk e1 p1 (ok1.put hp1 (o := .lst (us ++ ws)) (c := .lst (xs ++ ds)) (show CellAt K C Hf1 _ p (.lst (xs ++ ds)) from ⟨us ++ ws, upd_same, h4.app h6⟩)) rfl
/-! ### while -/
theorem rd_while {m : Nat} {c : TT} {tb : TS} {E : Ed} (I : Nat → Sta → Prop) (hm : m ≤ S.o.length) (h0 : ∃ n, I n S)
    (h : ∀ n S2, S2.o.length = S.o.length → I n S2 → RdT K C c S2 fun b S3 => if b = true then RdS K C S.o.length tb S3 { nx := WkTo S.o.length fun S4 => ∃ n', n' < n ∧ I n' S4, ct := WkTo S.o.length fun S4 => ∃ n', n' < n ∧ I n' S4, bk := E.nx, rt := E.rt } else E.nx S3) : RdS K C m (tWhile c tb) S E := by
  intro Z ps σ Hf H D ok qn qr qb qc
  have l1 := ok.plen
  obtain ⟨n0, i0⟩ := h0
  refine ⟨fun n σ' H' => ∃ S2 Hf2, I n S2 ∧ S2.o.length = S.o.length ∧ Same Hf Hf2 ∧ Ok K C Z S2 ps σ' Hf2 H', ⟨n0, S, Hf, i0, rfl, Same.refl _, ok⟩, ?_⟩
  rintro n σ2 H2 ⟨S2, Hf2, i2, l2, s2, ok2⟩
  refine h n S2 l2 i2 Z ps σ2 Hf2 H2 _ ok2 fun b S3 ps3 Hf3 H3 k3 e3 p3 ok3 => ?_
  cases b with
  | false => exact iteF (qn S3 ps3 σ2 Hf3 H3 k3 (s2.trans e3) (Kp.of p3) ok3)
  | true =>
    refine iteT ⟨fun σ' H' => ∃ n', n' < n ∧ ∃ S2 Hf2, I n' S2 ∧ S2.o.length = S.o.length ∧ Same Hf Hf2 ∧ Ok K C Z S2 ps σ' Hf2 H', fun σ' H' ⟨n', ln, z⟩ => ⟨n', ln, z⟩, ?_⟩
    have again : ∀ S5 ps5 σ5 Hf5 H5, WkTo S.o.length (fun S4 => ∃ n', n' < n ∧ I n' S4) S5 → Same Hf3 Hf5 → Kp S.o.length ps3 ps5 → Ok K C Z S5 ps5 σ5 Hf5 H5 → ∃ n', n' < n ∧ ∃ S2 Hf2, I n' S2 ∧ S2.o.length = S.o.length ∧ Same Hf Hf2 ∧ Ok K C Z S2 ps σ5 Hf2 H5 := by
      rintro ⟨g5, o5⟩ ps5 σ5 Hf5 H5 ⟨g', o, o', eo, wg, lo, n', ln, i5⟩ e5 p5 ok5
      have eo : o5 = o ++ o' := eo
      subst eo
      refine ⟨n', ln, ⟨g', o⟩, Hf5, i5, lo, (s2.trans e3).trans e5, ?_⟩
      have w := ok5.weak wg
      have l6 : (o ++ o').length = o.length + o'.length := List.length_append
      have l7 : ps5.length = (o ++ o').length := ok5.plen
      rw [lo, kp_take ((Kp.of p3).trans p5) l1 (by omega)] at w
      exact w
    exact (show RdS K C S.o.length tb S3 _ from k3) Z ps3 σ2 Hf3 H3 _ ok3 (fun S5 ps5 σ5 Hf5 H5 k5 e5 p5 ok5 => again S5 ps5 σ5 Hf5 H5 k5 e5 p5 ok5)
      (fun r S' ps' σ' Hf' H' v k e p => qr r S' ps' σ' Hf' H' v k (s2.trans (e3.trans e)) ((Kp.of p3).trans (p.mono hm)))
      (fun S' ps' σ' Hf' H' k e p => qn S' ps' σ' Hf' H' k (s2.trans (e3.trans e)) ((Kp.of p3).trans (p.mono hm)))
      (fun S5 ps5 σ5 Hf5 H5 k5 e5 p5 ok5 => again S5 ps5 σ5 Hf5 H5 k5 e5 p5 ok5)
/-! ### equal or not -/
mutual
def D.py : D → PyData
  | .non => .none
  | .bl b => .bool b
  | .int i => .int i
  | .str z => .str z
  | .lst ds => .list (D.pys ds)
  | .tup ds => .tuple (D.pys ds)
  | .rul _ _ _ _ => .none
  | .dct _ _ => .none
  | .scr _ => .none
  | .cls => .none
def D.pys : List D → List PyData
  | [] => []
  | d :: ds => d.py :: D.pys ds
end
def Pl : Nat → D → Prop
  | _, .non => True
  | _, .bl _ => True
  | _, .int _ => True
  | _, .str z => PySem.PyData.strOk z = true
  | n + 1, .lst ds => ∀ d ∈ ds, Pl n d
  | n + 1, .tup ds => ∀ d ∈ ds, Pl n d
  | _, _ => False
theorem pl_all {n : Nat} (ih : ∀ d v, Pl n d → At K C H d v → Dp K H v d.py) : ∀ (ds : List D) (vs : List V), (∀ d ∈ ds, Pl n d) → AtL K C H ds vs → DpAll K H vs (D.pys ds)
  | [], vs, _, h => by
    have h : vs = [] := h
    subst h
    exact .nil
  | d :: ds, vs, hp, ⟨v, us, e, h1, h2⟩ => by
    subst e
    exact .cons (ih d v (hp d List.mem_cons_self) h1) (pl_all ih ds us (fun x hx => hp x (List.mem_cons_of_mem _ hx)) h2)
theorem pl_dp : ∀ (n : Nat) (d : D) (v : V), Pl n d → At K C H d v → Dp K H v d.py
  | n, .non, v, _, h => by
    have h : v = .non := h
    subst h
    exact .non
  | n, .bl b, v, _, h => by
    have h : v = .bl b := h
    subst h
    exact .bl b
  | n, .int i, v, _, h => by
    have h : v = .int i := h
    subst h
    exact .int i
  | n, .str z, v, _, h => by
    have h : v = .str z := h
    subst h
    exact .str z
  | n + 1, .lst ds, v, hp, ⟨a, vs, e, h1, h2⟩ => by
    subst e
    exact .lst (.inl (.inl h1)) (pl_all (pl_dp n) ds vs hp h2)
  | n + 1, .tup ds, v, hp, ⟨a, vs, e, h1, h2⟩ => by
    subst e
    exact .tup (.inl (.inl h1)) (pl_all (pl_dp n) ds vs hp h2)
  | 0, .lst ds, v, hp, _ => hp.elim
  | 0, .tup ds, v, hp, _ => hp.elim
  | n, .rul _ _ _ _, v, hp, _ => by cases n <;> exact hp.elim
  | n, .dct _ _, v, hp, _ => by cases n <;> exact hp.elim
  | n, .scr _, v, hp, _ => by cases n <;> exact hp.elim
  | n, .cls, v, hp, _ => by cases n <;> exact hp.elim
theorem pl_lay_all {n : Nat} (ih : ∀ d, Pl n d → d.py.canLay0 = true ∧ d.py.depth ≤ n) : ∀ (ds : List D), (∀ d ∈ ds, Pl n d) → PyData.canLayAll0 (D.pys ds) = true ∧ PyData.depthAll (D.pys ds) ≤ n
  | [], _ => ⟨rfl, Nat.zero_le _⟩
  | d :: ds, hp => by
    obtain ⟨h1, h2⟩ := ih d (hp d List.mem_cons_self)
    obtain ⟨h3, h4⟩ := pl_lay_all ih ds (fun x hx => hp x (List.mem_cons_of_mem _ hx))
    refine ⟨?_, ?_⟩
    · show (d.py.canLay0 && PyData.canLayAll0 (D.pys ds)) = true
      rw [h1, h3]
      rfl
    · show max d.py.depth (PyData.depthAll (D.pys ds)) ≤ n
      exact Nat.max_le.mpr ⟨h2, h4⟩
theorem pl_lay : ∀ (n : Nat) (d : D), Pl n d → d.py.canLay0 = true ∧ d.py.depth ≤ n
  | n, .non, _ => ⟨rfl, Nat.zero_le _⟩
  | n, .bl b, _ => ⟨rfl, Nat.zero_le _⟩
  | n, .int i, _ => ⟨rfl, Nat.zero_le _⟩
  | n, .str z, h => ⟨(by cases n <;> exact h : PySem.PyData.strOk z = true), Nat.zero_le _⟩
  | n + 1, .lst ds, hp => by
    obtain ⟨h1, h2⟩ := pl_lay_all (pl_lay n) ds hp
    exact ⟨h1, Nat.succ_le_succ h2⟩
  | n + 1, .tup ds, hp => by
    obtain ⟨h1, h2⟩ := pl_lay_all (pl_lay n) ds hp
    exact ⟨h1, Nat.succ_le_succ h2⟩
  | 0, .lst ds, hp => hp.elim
  | 0, .tup ds, hp => hp.elim
  | n, .rul _ _ _ _, hp => by cases n <;> exact hp.elim
  | n, .dct _ _, hp => by cases n <;> exact hp.elim
  | n, .scr _, hp => by cases n <;> exact hp.elim
  | n, .cls, hp => by cases n <;> exact hp.elim
theorem pl_shaped {d : D} (h : Pl 64 d) : SeqAt.shaped d.py = true := by
  obtain ⟨h1, h2⟩ := pl_lay 64 d h
  show (d.py.canLay0 && decide (d.py.depth ≤ 64)) = true
  rw [h1, decide_eq_true h2]
  rfl
theorem r2_eqD {d e : D} (hd : Pl 64 d) (he : Pl 64 e) (k : Kn (.val (.bl (PyData.eqv d.py e.py))) S) : R2D K C (rEqD K) (.val d) (.val e) S Kn :=
  r2_of2 fun Z ps σ Hf H Q x y ok ha hb q _ => ⟨d.py, e.py, pl_dp 64 d x hd (At.mono ok.sub ha), pl_dp 64 e y he (At.mono ok.sub hb), pl_shaped hd, pl_shaped he, q _ _ k rfl⟩
theorem r2_neD {d e : D} (hd : Pl 64 d) (he : Pl 64 e) (k : Kn (.val (.bl (!PyData.eqv d.py e.py))) S) : R2D K C (rNeD K) (.val d) (.val e) S Kn :=
  r2_of2 fun Z ps σ Hf H Q x y ok ha hb q _ => ⟨d.py, e.py, pl_dp 64 d x hd (At.mono ok.sub ha), pl_dp 64 e y he (At.mono ok.sub hb), pl_shaped hd, pl_shaped he, q _ _ k rfl⟩
theorem eqv_same {d : D} (h : Pl 64 d) : PyData.eqv d.py d.py = true := PySem.SeqAt.eqv_refl _ (pl_lay 64 d h).1
/-- the two are the same -/
theorem r2_neSame {d e : D} (hd : Pl 64 d) (h : d = e) (k : Kn (.val (.bl false)) S) : R2D K C (rNeD K) (.val d) (.val e) S Kn := by
  subst h
  refine r2_neD hd hd ?_
  rw [eqv_same hd]
  exact k
theorem r2_eqSame {d e : D} (hd : Pl 64 d) (h : d = e) (k : Kn (.val (.bl true)) S) : R2D K C (rEqD K) (.val d) (.val e) S Kn := by
  subst h
  refine r2_eqD hd hd ?_
  rw [eqv_same hd]
  exact k
/-- numbers, texts, truth values -/
def atomV : D → Option V
  | .non => some .non
  | .bl b => some (.bl b)
  | .int i => some (.int i)
  | .str z => some (.str z)
  | _ => none
theorem at_atom {d : D} {u v : V} (h : atomV d = some u) (a : At K C H d v) : v = u := by
  cases d <;> first | cases h; exact a | cases h
theorem r2_eqA {d e : D} {x y : V} (hd : atomV d = some x) (he : atomV e = some y) (hs : scal x y = true) (k : Kn (.val (.bl (decide (x = y)))) S) : R2D K C rEq (.val d) (.val e) S Kn :=
  r2_of2 fun Z ps σ Hf H Q a b ok ha hb q _ => by
    have e1 := at_atom hd ha
    have e2 := at_atom he hb
    subst e1 e2
    exact ⟨hs, q _ _ k rfl⟩
theorem r2_neA {d e : D} {x y : V} (hd : atomV d = some x) (he : atomV e = some y) (hs : scal x y = true) (k : Kn (.val (.bl (!decide (x = y)))) S) : R2D K C rNe (.val d) (.val e) S Kn :=
  r2_of2 fun Z ps σ Hf H Q a b ok ha hb q _ => by
    have e1 := at_atom hd ha
    have e2 := at_atom he hb
    subst e1 e2
    exact ⟨hs, q _ _ k rfl⟩
/-- x in xs of atoms: flat things -/
def atomVs : List D → Option (List V)
  | [] => some []
  | d :: ds => match atomV d, atomVs ds with
    | some v, some vs => some (v :: vs)
    | _, _ => none
theorem r2_inL {d : D} {x : V} {ds : List D} {vs : List V} {b : Bool} (hd : atomV d = some x) (hv : ∀ us, AtL K C H ds us → us = vs) (hv' : ∀ H us, AtL K C H ds us → us = vs) (f1 : flatV x = true) (f2 : vs.all flatV = true) (k : Kn (.val (.bl (if b then !inV x vs else inV x vs))) S) : R2D K C (rIn K b) (.val d) (.val (.lst ds)) S Kn :=
  r2_of2 fun Z ps σ Hf H Q a y ok ha hb q _ => by
    have e1 := at_atom hd ha
    subst e1
    obtain ⟨p, us, rfl, h1, h2⟩ := hb
    have e2 := hv' _ us h2
    subst e2
    exact ⟨p, us, rfl, .inl (.inl (.inl (ok.sub _ _ h1))), f1, f2, q _ _ k rfl⟩
end
end DL

set_option Elab.async false
set_option linter.all false
set_option maxRecDepth 100000
set_option maxHeartbeats 1200000
namespace DL
open PySem PySem.Spec PyProof.Rows L2 WP
section
variable {K : PySem.W.Frag} {C : Addr} {S : Sta} {Kn : KE} {E : XK}
abbrev OnR (sp : Sp) (E : XK) : List V → Hp → VK → Prop := fun vs H Q => sp vs H Q E
/-! ### the promises of before, over data -/
theorem rc_box {ns : List Int} {k own : Nat} (hl : ns.length ≤ 63) (h : Kn (.ptr S.o.length) (S.more .box)) : RcD K C (OnR (spBox K) E) [.val (.scr ns), .val (nat k), .val (nat own)] S Kn := by
  intro Z ps σ Hf H Q vs ok av q
  obtain ⟨v, w, u, rfl, ⟨a, rfl, ha⟩, (hw : w = _), (hu : u = _)⟩ := sls3 av
  subst hw hu
  refine ⟨a, ns, k, own, rfl, ok.sub.seq ha, hl, fun H' p e np hB => ?_⟩
  obtain ⟨i, j, l, hp, hi⟩ := Box.ex hB
  have H1 : H' p = some (.lst [.int i, .int j, .int l]) := hp
  obtain ⟨n1, n2, n3⟩ := ok.noZ np
  refine q _ _ (ps ++ [p]) Hf H' _ h (Same.refl _) (List.prefix_append _ _) ?_ ⟨p, rfl, by rw [← ok.plen]; exact get_last _ _⟩
  have ok1 := ok.push np (o := .lst [.int i, .int j, .int l]) (c := .box) (show CellAt K C Hf (upd H p _) p .box from ⟨⟨i, j, l, upd_same, hi⟩⟩)
  exact {
    sub := fun b o hb => e b o (ok.sub b o hb)
    len := ok1.len
    slot := ok1.slot
    plen := ok1.plen
    cell := fun m c t x y => by
      refine (ok1.cell m c t x y).mono (Same.refl _) fun o ho => ?_
      by_cases z : t = p
      · subst z
        rw [upd_same] at ho
        rw [H1, ← ho]
      · rw [upd_ne z] at ho
        exact e t o ho
    free := ok1.free
    nd := ok1.nd
    far := fun a o ho => by
      obtain ⟨h1, h2, h3⟩ := ok1.far a o ho
      obtain ⟨h4, _, _⟩ := ok.far a o ho
      exact ⟨e a o h4, h2, h3⟩ }
theorem rc_take {n : Nat} {m : Int} (hn : S.o[n]? = some .box) (h0 : 0 < m) (h1 : m < 1000000) (h : ∀ r, 0 ≤ r → r < m → Kn (.val (.int r)) S) : RcD K C (OnR spTake E) [.ptr n, .val (.int m)] S Kn := by
  intro Z ps σ Hf H Q vs ok av q
  obtain ⟨v, w, rfl, ⟨b, rfl, hb⟩, (hw : w = _)⟩ := sls2 av
  subst hw
  exact ⟨b, m, rfl, (ok.box hn hb).1, h0, h1, fun H' r r0 r1 b1 hb1 => q _ S ps Hf H' _ (h r r0 r1) (Same.refl _) (prefix_refl _) (ok.newB hn hb b1 hb1) rfl⟩
/-- the same, as a number that is not below 0 -/
theorem rc_takeN {n : Nat} {m : Int} (hn : S.o[n]? = some .box) (h0 : 0 < m) (h1 : m < 1000000) (h : ∀ r : Nat, (r : Int) < m → Kn (.val (nat r)) S) : RcD K C (OnR spTake E) [.ptr n, .val (.int m)] S Kn :=
  rc_take hn h0 h1 fun r r0 r1 => by
    have e : r = ((r.toNat : Nat) : Int) := by omega
    rw [e]
    exact h r.toNat (by omega)
theorem rc_text {n s m : Nat} (hn : S.o[n]? = some .box) (hs : s = 2 ∨ s = 3 ∨ s = 4) (hm : m ≤ 1000) (h : ∀ ds, ds.length = m → Dig s ds → Kn (.val (txd ds)) S) : RcD K C (OnR spText E) [.ptr n, .val (nat s), .val (nat m)] S Kn := by
  intro Z ps σ Hf H Q vs ok av q
  obtain ⟨v, w, u, rfl, ⟨b, rfl, hb⟩, (hw : w = _), (hu : u = _)⟩ := sls3 av
  subst hw hu
  exact ⟨b, s, m, rfl, (ok.box hn hb).1, hs, hm, fun H' ds b1 hb1 hl hd => q _ S ps Hf H' _ (h ds hl hd) (Same.refl _) (prefix_refl _) (ok.newB hn hb b1 hb1) rfl⟩
theorem rc_pickS {n : Nat} {z : Str} (hn : S.o[n]? = some .box) (h0 : 0 < z.length) (h1 : z.length < 1000000) (h : ∀ (j c : Nat), z.cps[j]? = some c → Kn (.val (.str ⟨#[c]⟩)) S) : RcD K C (OnR spPickS E) [.ptr n, .val (.str z)] S Kn := by
  intro Z ps σ Hf H Q vs ok av q
  obtain ⟨v, w, rfl, ⟨b, rfl, hb⟩, (hw : w = _)⟩ := sls2 av
  subst hw
  exact ⟨b, z, rfl, (ok.box hn hb).1, h0, h1, fun H' j c hc b1 hb1 => q _ S ps Hf H' _ (h j c hc) (Same.refl _) (prefix_refl _) (ok.newB hn hb b1 hb1) rfl⟩
/-- a pick from a list -/
theorem rc_pick {n : Nat} {ds : List D} (hn : S.o[n]? = some .box) (h0 : 0 < ds.length) (h1 : ds.length < 1000000) (h : ∀ (j : Nat) d, ds[j]? = some d → Kn (.val d) S) : RcD K C (OnR (spPick K) E) [.ptr n, .val (.lst ds)] S Kn := by
  intro Z ps σ Hf H Q vs ok av q
  obtain ⟨v, w, rfl, ⟨b, rfl, hb⟩, a, us, rfl, ha, hu⟩ := sls2 av
  have ha2 := ok.sub _ _ ha
  have ab : a ≠ b := fun z => by
    rw [z, (ok.box hn hb).2] at ha
    cases ha
  refine ⟨b, a, us, rfl, (ok.box hn hb).1, .inl (.inl ha2), ab, by rw [hu.len]; exact h0, by rw [hu.len]; exact h1, fun H' j x hx b1 hb1 => ?_⟩
  obtain ⟨d, hd, hd2⟩ := hu.at hx
  exact q _ S ps Hf H' x (h j d hd) (Same.refl _) (prefix_refl _) (ok.newB hn hb b1 hb1) hd2
theorem drawing {Z Hf H : Hp} {ps : List Addr} {σ : L2.St} {Q : VK} {n : Nat} {b : Addr} (ok : Ok K C Z S ps σ Hf H) (hn : S.o[n]? = some .box) (hb : ps[n]? = some b) (h : ∀ s w k tb, OkS s w k → Tab s w k tb → Kn (.val (drawn s w k tb)) S)
    (q : ∀ r S' ps' Hf' H' v, Kn r S' → Same Hf Hf' → ps <+: ps' → Ok K C Z S' ps' σ Hf' H' → SlAt K C ps' Hf' r v → Q v H') : Drawing b H Q := by
  intro H' d p s w k tb b1 hb1 nd np hD os ht
  have ok1 := ok.newB hn hb b1 hb1
  obtain ⟨d1, d2, d3⟩ := ok.noZ nd
  obtain ⟨p1, p2, p3⟩ := ok.noZ np
  have dp : d ≠ p := ne_of hD.1 hD.2 (by intro z; cases z)
  have p4 : upd Hf d (.tup [iv s, iv w, iv k, .ref p]) p = none := by rw [upd_ne dp.symm]; exact p3
  have ok2 := (ok1.know (H0 := H) hD.1 d3 d2 d1).know (H0 := H) hD.2 p4 p2 p1
  refine q _ S ps _ H' _ (h s w k tb os ht) ((same_upd d3).trans (same_upd p4)) (prefix_refl _) ok2 (at_drawn.mpr ⟨d, p, rfl, ?_, upd_same⟩)
  rw [upd_ne dp]
  exact upd_same
theorem rc_rule {n most : Nat} (hn : S.o[n]? = some .box) (hm : 2 ≤ most) (h : ∀ s w k tb, OkS s w k → Tab s w k tb → Kn (.val (drawn s w k tb)) S) : RcD K C (OnR spRule E) [.ptr n, .val (nat most)] S Kn := by
  intro Z ps σ Hf H Q vs ok av q
  obtain ⟨v, w, rfl, ⟨b, rfl, hb⟩, (hw : w = _)⟩ := sls2 av
  subst hw
  exact ⟨b, most, rfl, (ok.box hn hb).1, hm, drawing ok hn hb h q⟩
theorem rc_rule_of {s w k : Nat} {tb : List Nat} (os : OkS s w k) (ht : Tab s w k tb) (h : Kn (.val (.rul s w k tb)) S) : RcD K C (OnR (spRuleOf C) E) [.val (drawn s w k tb)] S Kn := by
  intro Z ps σ Hf H Q vs ok av q
  obtain ⟨v, rfl, hv⟩ := sls1 av
  obtain ⟨d, p, rfl, hD⟩ := at_drawn.mp hv
  refine ⟨d, p, s, w, k, tb, rfl, hD.same ok.sub, os, ht, fun H' x e nx hR => ?_⟩
  obtain ⟨dx, t, hx, htt, nt⟩ := hR
  have ok1 := ok.grow (Same.refl _) e (ok.sub.trans e) (fun _ _ z => z)
  obtain ⟨x1, x2, x3⟩ := ok.noZ nx
  obtain ⟨t1, t2, t3⟩ := ok.noZ nt
  have xt : x ≠ t := ne_of hx htt (by intro z; cases z)
  have t4 : upd Hf x (.ins C dx (rflds s w k t)) t = none := by rw [upd_ne xt.symm]; exact t3
  have ok2 := (ok1.know (H0 := H) hx x3 x2 x1).know (H0 := H) htt t4 t2 t1
  refine q _ S ps _ H' _ h ((same_upd x3).trans (same_upd t4)) (prefix_refl _) ok2 ⟨x, rfl, dx, t, ?_, upd_same⟩
  rw [upd_ne xt]
  exact upd_same
theorem rc_spot {s w k : Nat} {tb ds : List Nat} (os : OkS s w k) (ht : tb.length = s ^ (w + k - 1)) (hl : ds.length = w + k - 1) (hd : Dig s ds) (h : Kn (.val (nat (tb.getD (num s ds) 0))) S) : RcD K C (OnR spSpot E) [.val (drawn s w k tb), .val (txd ds)] S Kn :=
  rc_of fun Z ps σ Hf H Q vs ok av q _ => by
    obtain ⟨v, u, rfl, hv, (hu : u = _)⟩ := sls2 av
    subst hu
    obtain ⟨d, p, rfl, hD⟩ := at_drawn.mp hv
    exact ⟨d, p, s, w, k, tb, ds, rfl, hD.same ok.sub, os, ht, hl, hd, q _ _ h rfl⟩
/-- a new list or tuple, among the things that never change -/
theorem seq_new {Z Hf H H' : Hp} {ps : List Addr} {σ : L2.St} (ok : Ok K C Z S ps σ Hf H) {p : Addr} {o : HO} (e : Same H H') (np : H p = none) (hp : H' p = some o) : Same Hf (upd Hf p o) ∧ Ok K C Z S ps σ (upd Hf p o) H' := by
  obtain ⟨p1, p2, p3⟩ := ok.noZ np
  exact ⟨same_upd p3, (ok.grow (Same.refl _) e (ok.sub.trans e) (fun _ _ z => z)).know (H0 := H) hp p3 p2 p1⟩
theorem rc_places {s w k : Nat} {tb ds : List Nat} (os : OkS s w k) (ht : tb.length = s ^ (w + k - 1)) (hl : ds.length ≤ 1000) (hd : Dig s ds) (h : ∀ ns, Places s w k tb ds ns → Kn (.val (.lst (ns.map D.int))) S) : RcD K C (OnR spPlaces E) [.val (drawn s w k tb), .val (txd ds)] S Kn := by
  intro Z ps σ Hf H Q vs ok av q
  obtain ⟨v, u, rfl, hv, (hu : u = _)⟩ := sls2 av
  subst hu
  obtain ⟨d, p, rfl, hD⟩ := at_drawn.mp hv
  refine ⟨d, p, s, w, k, tb, ds, rfl, hD.same ok.sub, os, ht, hl, hd, fun H' t ns e nt hT hP => ?_⟩
  obtain ⟨e2, ok2⟩ := seq_new ok e nt hT
  exact q _ S ps _ H' _ (h ns hP) e2 (prefix_refl _) ok2 ⟨t, _, rfl, upd_same, AtL.ints.mpr rfl⟩
theorem rc_picks {s w k : Nat} {tb ds : List Nat} (og : OkG s w k) (ht : tb.length = s ^ (w + k - 1)) (hl : ds.length ≤ 1000) (hd : Dig s ds) (h : ∀ ns, Places s w k tb ds ns → Kn (.val (.tup (ns.map D.int))) S) : RcD K C (OnR (spPicksV C) E) [.val (.rul s w k tb), .val (txd ds)] S Kn := by
  intro Z ps σ Hf H Q vs ok av q
  obtain ⟨v, u, rfl, ⟨x, rfl, hR⟩, (hu : u = _)⟩ := sls2 av
  subst hu
  refine ⟨x, s, w, k, tb, ds, rfl, hR.same ok.sub, og, ht, hl, hd, fun H' t ns e nt hT hP => ?_⟩
  obtain ⟨e2, ok2⟩ := seq_new ok e nt hT
  exact q _ S ps _ H' _ (h ns hP) e2 (prefix_refl _) ok2 ⟨t, _, rfl, upd_same, AtL.ints.mpr rfl⟩
theorem rc_is_picked {s w k : Nat} {tb ds : List Nat} (og : OkG s w k) (ht : tb.length = s ^ (w + k - 1)) (hl : ds.length ≤ 1000) (hd : Dig s ds) (h : Kn (.val (.bl (pkd s w k tb ds (w - 1)))) S) : RcD K C (OnR (spIsPickedV C) E) [.val (.rul s w k tb), .val (txd ds)] S Kn := by
  intro Z ps σ Hf H Q vs ok av q
  obtain ⟨v, u, rfl, ⟨x, rfl, hR⟩, (hu : u = _)⟩ := sls2 av
  subst hu
  exact ⟨x, s, w, k, tb, ds, rfl, hR.same ok.sub, og, ht, hl, hd, fun H' e => q _ S ps Hf H' _ h (Same.refl _) (prefix_refl _) (ok.grow (Same.refl _) e (ok.sub.trans e) (fun _ _ z => z)) rfl⟩
theorem rc_offset {s w k : Nat} {tb ds : List Nat} (og : OkG s w k) (ht : tb.length = s ^ (w + k - 1)) (hl : ds.length = w + k - 1) (hd : Dig s ds) (h : Kn (.val (nat (tb.getD (num s ds) 0))) S) : RcD K C (OnR (spOffset C) E) [.val (.rul s w k tb), .val (txd ds)] S Kn := by
  intro Z ps σ Hf H Q vs ok av q
  obtain ⟨v, u, rfl, ⟨x, rfl, hR⟩, (hu : u = _)⟩ := sls2 av
  subst hu
  exact ⟨x, s, w, k, tb, ds, rfl, hR.same ok.sub, og, ht, hl, hd, fun H' e => q _ S ps Hf H' _ h (Same.refl _) (prefix_refl _) (ok.grow (Same.refl _) e (ok.sub.trans e) (fun _ _ z => z)) rfl⟩
theorem rc_texts {s n : Nat} (hs : s = 2 ∨ s = 3 ∨ s = 4) (hn : n ≤ 100) (hl : s ^ n ≤ 100000) (h : Kn (.val (.lst ((allT s n).map txd))) S) : RcD K C (OnR spTexts E) [.val (nat s), .val (nat n)] S Kn := by
  intro Z ps σ Hf H Q vs ok av q
  obtain ⟨v, u, rfl, (hv : v = _), (hu : u = _)⟩ := sls2 av
  subst hv hu
  refine ⟨s, n, rfl, hs, hn, hl, fun H' p e np hp => ?_⟩
  obtain ⟨e2, ok2⟩ := seq_new ok e np hp
  exact q _ S ps _ H' _ h e2 (prefix_refl _) ok2 ⟨p, _, rfl, upd_same, atL_txs.mpr rfl⟩
theorem rc_power {b n : Nat} (hb : b ≤ 1000) (hn : n ≤ 1000) (h : Kn (.val (nat (b ^ n))) S) : RcD K C (OnR spPower E) [.val (nat b), .val (nat n)] S Kn :=
  rc_of fun Z ps σ Hf H Q vs ok av q _ => by
    obtain ⟨v, u, rfl, (hv : v = _), (hu : u = _)⟩ := sls2 av
    subst hv hu
    exact ⟨b, n, rfl, hb, hn, q _ _ h rfl⟩
theorem rc_number {s : Nat} {ds : List Nat} (hs : s ≤ 4) (hd : Dig 4 ds) (hl : ds.length ≤ 100000) (h : Kn (.val (nat (num s ds))) S) : RcD K C (OnR spNumber E) [.val (nat s), .val (txd ds)] S Kn :=
  rc_of fun Z ps σ Hf H Q vs ok av q _ => by
    obtain ⟨v, u, rfl, (hv : v = _), (hu : u = _)⟩ := sls2 av
    subst hv hu
    exact ⟨s, ds, rfl, hs, hd, hl, q _ _ h rfl⟩
theorem rc_check {s : Nat} {ds : List Nat} (hs : s = 2 ∨ s = 3 ∨ s = 4) (hd : Dig s ds) (hl : ds.length ≤ 100000) (h : Kn (.val .non) S) : RcD K C (OnR spCheck E) [.val (nat s), .val (txd ds)] S Kn := by
  intro Z ps σ Hf H Q vs ok av q
  obtain ⟨v, u, rfl, (hv : v = _), (hu : u = _)⟩ := sls2 av
  subst hv hu
  exact ⟨s, ds, rfl, hs, hd, hl, fun H' e => q _ S ps Hf H' _ h (Same.refl _) (prefix_refl _) (ok.grow (Same.refl _) e (ok.sub.trans e) (fun _ _ z => z)) rfl⟩
/-! ### a rule's attributes, its offset as a method -/
section
variable {mg : Str → Option Value} {ta : TE}
theorem rd_letters (T : RTxt K mg C) (h : RdE K C ta S fun r S1 => ∃ s w k tb, r = .val (.rul s w k tb) ∧ Kn (.val (nat s)) S1) : RdE K C (tFld K ta "letters") S Kn := by
  intro Z ps σ Hf H Q ok q
  refine h Z ps σ Hf H _ ok fun r S1 ps1 Hf1 H1 v ⟨s, w, k, tb, er, kk⟩ e1 p1 ok1 av => ?_
  subst er
  obtain ⟨x, rfl, dx, t, hx, ht⟩ := av
  exact ⟨x, C, dx, _, _, rfl, ok1.sub _ _ hx, T.cl, T.nL, rf_letters s w k t, q _ S1 ps1 Hf1 H1 _ kk e1 p1 ok1 rfl⟩
theorem rd_w (T : RTxt K mg C) (h : RdE K C ta S fun r S1 => ∃ s w k tb, r = .val (.rul s w k tb) ∧ Kn (.val (nat w)) S1) : RdE K C (tFld K ta "w") S Kn := by
  intro Z ps σ Hf H Q ok q
  refine h Z ps σ Hf H _ ok fun r S1 ps1 Hf1 H1 v ⟨s, w, k, tb, er, kk⟩ e1 p1 ok1 av => ?_
  subst er
  obtain ⟨x, rfl, dx, t, hx, ht⟩ := av
  exact ⟨x, C, dx, _, _, rfl, ok1.sub _ _ hx, T.cl, T.nW, rf_w s w k t, q _ S1 ps1 Hf1 H1 _ kk e1 p1 ok1 rfl⟩
theorem rd_kk (T : RTxt K mg C) (h : RdE K C ta S fun r S1 => ∃ s w k tb, r = .val (.rul s w k tb) ∧ Kn (.val (nat k)) S1) : RdE K C (tFld K ta "k") S Kn := by
  intro Z ps σ Hf H Q ok q
  refine h Z ps σ Hf H _ ok fun r S1 ps1 Hf1 H1 v ⟨s, w, k, tb, er, kk⟩ e1 p1 ok1 av => ?_
  subst er
  obtain ⟨x, rfl, dx, t, hx, ht⟩ := av
  exact ⟨x, C, dx, _, _, rfl, ok1.sub _ _ hx, T.cl, T.nK, rf_k s w k t, q _ S1 ps1 Hf1 H1 _ kk e1 p1 ok1 rfl⟩
theorem rd_table (T : RTxt K mg C) (h : RdE K C ta S fun r S1 => ∃ s w k tb, r = .val (.rul s w k tb) ∧ Kn (.val (.tup (tb.map nat))) S1) : RdE K C (tFld K ta "table") S Kn := by
  intro Z ps σ Hf H Q ok q
  refine h Z ps σ Hf H _ ok fun r S1 ps1 Hf1 H1 v ⟨s, w, k, tb, er, kk⟩ e1 p1 ok1 av => ?_
  subst er
  obtain ⟨x, rfl, dx, t, hx, ht⟩ := av
  exact ⟨x, C, dx, _, _, rfl, ok1.sub _ _ hx, T.cl, T.nT, rf_table s w k t, q _ S1 ps1 Hf1 H1 _ kk e1 p1 ok1 ⟨t, _, rfl, ht, atL_nats.mpr rfl⟩⟩
/-- rule.m(..) -/
theorem rd_meth {m : Str} {sp : Sp} {t : TA} (h1 : ¬ m = "table") (h2 : ¬ m = "k") (h3 : ¬ m = "w") (h4 : ¬ m = "letters") (h : RdE K C ta S fun r S1 => ∃ s w k tb, r = .val (.rul s w k tb) ∧ RdA K C t S1 fun as S2 => RcD K C (OnR sp E) (.val (.rul s w k tb) :: as) S2 Kn) : RdE K C (tMeth C m sp [] E ta t) S Kn := by
  intro Z ps σ Hf H Q ok q
  refine h Z ps σ Hf H _ ok fun r S1 ps1 Hf1 H1 v ⟨s, w, k, tb, er, kk⟩ e1 p1 ok1 av => ?_
  subst er
  obtain ⟨x, rfl, dx, tt, hx, ht⟩ := av
  refine ⟨x, dx, _, rfl, ok1.sub _ _ hx, rf_no h1 h2 h3 h4 s w k tt, ?_⟩
  refine kk Z ps1 σ Hf1 H1 _ ok1 fun as S2 ps2 Hf2 H2 vs k2 e2 p2 ok2 a2 => ?_
  rw [List.append_nil]
  exact k2 Z ps2 σ Hf2 H2 Q _ ok2 ⟨_, vs, rfl, ⟨x, rfl, dx, tt, e2 _ _ hx, e2 _ _ ht⟩, a2⟩ fun r S' ps' Hf' H' v kk e p ok' av => q r S' ps' Hf' H' v kk (e1.trans (e2.trans e)) (p1.trans (p2.trans p)) ok' av
end
end
end DL

set_option Elab.async false
set_option linter.all false
set_option maxRecDepth 100000
set_option maxHeartbeats 1200000
namespace DL
open PySem PySem.Spec PyProof.Rows L2 WP
/-! ### a text some times over -/
theorem joined {α : Type} : ∀ (l : List (Array α)) (a : Array α), (l.foldl (· ++ ·) a).toList = a.toList ++ (l.map Array.toList).flatten
  | [], a => by rw [List.foldl_nil, List.map_nil, List.flatten_nil, List.append_nil]
  | b :: l, a => by rw [List.foldl_cons, joined l (a ++ b), Array.toList_append, List.map_cons, List.flatten_cons, List.append_assoc]
def rMulS : R2 := fun x y H Q => ∃ (z : Str) (n : Nat), x = .str z ∧ y = .int (n : Int) ∧ 1 ≤ n ∧ n ≤ 1000 ∧ 1 ≤ z.length ∧ z.length ≤ 100 ∧ Q (.str ⟨(List.replicate n z.cps.toList).flatten.toArray⟩) H
theorem op_mulS {X : Cx} : OpR X (binaryOp .Mult) rMulS := by
  intro pins s σ H x y v u Q I rx ry h
  obtain ⟨z, n, rfl, rfl, h1, h2, h3, h4, q⟩ := h
  obtain ⟨t, rfl⟩ := rx
  obtain ⟨t', rfl⟩ := ry
  have e1 : (List.replicate n z.cps).foldl (· ++ ·) #[] = (List.replicate n z.cps.toList).flatten.toArray := by
    rw [← Array.toList_inj, joined]
    simp
  have hs : z.length * n ≤ 100 * 1000 := Nat.mul_le_mul h4 h2
  have e2 : ((List.replicate n z.cps.toList).flatten).length = n * z.length := by
    rw [List.length_flatten, List.map_replicate, List.sum_replicate_nat]
    rfl
  refine P.mul_str ?_ (fun _ _ => ?_) (fun _ _ => ?_) ?_
  · have a : ¬ ((n : Int) < -(2 ^ 63 : Int)) := by omega
    have b : ¬ ((n : Int) ≥ 2 ^ 63) := by omega
    rw [decide_eq_false a, decide_eq_false b]
    rfl
  · have hn : (0 : Int) < n := by omega
    have : (z.length : Int) ≤ (2 ^ 63 - 1) / (n : Int) := by
      rw [Int.le_ediv_iff_mul_le hn]
      have : ((z.length : Int)) * (n : Int) = ((z.length * n : Nat) : Int) := by rw [Int.natCast_mul]
      rw [this]
      omega
    omega
  · rw [Int.toNat_natCast]
    exact decide_eq_false (Nat.not_lt.mpr (Nat.le_trans hs (by decide)))
  · rw [if_neg (by omega : ¬ (n : Int) < 1)]
    split
    · rename_i c
      have hn : n = 1 := by
        rcases Bool.or_eq_true_iff.mp c with c | c
        · have := eq_of_beq c
          omega
        · have := eq_of_beq c
          omega
      subst hn
      refine ⟨.str z, H, I, ⟨t, rfl⟩, ?_⟩
      have e3 : (⟨(List.replicate 1 z.cps.toList).flatten.toArray⟩ : Str) = z := by
        obtain ⟨c⟩ := z
        simp
      rw [e3] at q
      exact q
    · rw [Int.toNat_natCast, e1]
      refine ⟨?_, .str _, H, I.tok _, ⟨_, rfl⟩, q⟩
      show ((List.replicate n z.cps.toList).flatten.toArray).size ≤ sizeLine
      rw [List.size_toArray, e2, Nat.mul_comm]
      exact Nat.le_trans hs (by decide)
/-! ### operators of any kind -/
section
variable {X : Cx} (K : PySem.W.Frag)
abbrev rAddI : R2 := rI0 fun i j => .int (i + j)
abbrev rAddS : R2 := fun x y H Q => ∃ i j, x = .str i ∧ y = .str j ∧ i.length + j.length ≤ sizeLine ∧ Q (.str (i ++ j)) H
abbrev uAdd : R2 := rOr rAddI (rOr rAddS (rOr rCat (rCatA K)))
theorem opAddU (h : X.K = K := by rfl) : OpR X (binaryOp .Add) (uAdd K) := by
  subst h
  exact opOr op_add (opOr op_add_str (opOr op_cat op_catA))
abbrev rMulI : R2 := rI CMul fun i j => .int (i * j)
abbrev uMul (_ : PySem.W.Frag) : R2 := rOr rMulI (rOr rRep rMulS)
theorem opMulU (h : X.K = K := by rfl) : OpR X (binaryOp .Mult) (uMul K) := by
  subst h
  exact opOr op_mul (opOr op_rep op_mulS)
abbrev uEq : R2 := rOr rEq (rEqD K)
theorem opEqU (hu : X.A.units + 64 < cLine) (h : X.K = K := by rfl) : OpR X (compareOp .Eq) (uEq K) := by
  subst h
  exact opOr op_eq (op_eqD hu)
abbrev uNe : R2 := rOr rNe (rNeD K)
theorem opNeU (hu : X.A.units + 64 < cLine) (h : X.K = K := by rfl) : OpR X (compareOp .NotEq) (uNe K) := by
  subst h
  exact opOr op_ne (op_neD hu)
abbrev rInS : R2 := fun x y H Q => ∃ (c : Nat) (z : Str), x = .str ⟨#[c]⟩ ∧ y = .str z ∧ Q (.bl (decide (c ∈ z.cps.toList))) H
abbrev rNotInS : R2 := fun x y H Q => ∃ (c : Nat) (z : Str), x = .str ⟨#[c]⟩ ∧ y = .str z ∧ Q (.bl (!decide (c ∈ z.cps.toList))) H
abbrev uIn : R2 := rOr (rIn K false) rInS
theorem opInU (h : X.K = K := by rfl) : OpR X (compareOp .In) (uIn K) := by
  subst h
  exact opOr op_in_seq op_in_sign
abbrev uNotIn : R2 := rOr (rIn K true) rNotInS
theorem opNotInU (h : X.K = K := by rfl) : OpR X (compareOp .NotIn) (uNotIn K) := by
  subst h
  exact opOr op_notIn_seq op_notIn_sign
abbrev uIx : R2 := rOr (rIxT K) (rOr (rIxL K) rIxS)
theorem ixU (h : X.K = K := by rfl) : IxR X (uIx K) := by
  subst h
  exact IxR.or ix_tup (IxR.or ix_list ix_str)
abbrev uSl : V → Option Int → Option Int → Hp → VK → Prop := fun x lo hi H Q => rSlS x lo hi H Q ∨ (rSlL K x lo hi H Q ∨ rSlA K x lo hi H Q)
theorem slU (h : X.K = K := by rfl) : SlR X (uSl K) := by
  subst h
  exact SlR.or sl_str (SlR.or sl_list sl_tupA)
theorem crOr {f : Value} {r r' : List V → Hp → VK → Prop} (h : CallR X f r) (h' : CallR X f r') : CallR X f (fun vs H Q => r vs H Q ∨ r' vs H Q) := by
  intro pins s σ H vs us Q I rv q
  rcases q with q | q
  · exact h pins s σ H vs us Q I rv q
  · exact h' pins s σ H vs us Q I rv q
abbrev rLenS : List V → Hp → VK → Prop := fun xs H Q => ∃ z, xs = [.str z] ∧ z.length ≤ sizeLine ∧ Q (.int z.length) H
abbrev uLen : List V → Hp → VK → Prop := fun vs H Q => rLenSeq K vs H Q ∨ rLenS vs H Q
theorem lenU (h : X.K = K := by rfl) : CallR X (.builtin "len") (uLen K) := by
  subst h
  exact crOr call_len_seq call_len_str
theorem listU (h : X.K = K := by rfl) : CallR X (.type "list") (rListOf K) := by
  subst h
  exact call_list_of
theorem tupleU (h : X.K = K := by rfl) : CallR X (.type "tuple") (rTupleOf K) := by
  subst h
  exact call_tuple_of
theorem sortedU (h : X.K = K := by rfl) : CallR X (.builtin "sorted") (rSortedI K) := by
  subst h
  exact cr_sortedI
abbrev uIter (te : TE) : TI := fun σ H R => iList K te σ H R ∨ (iTup K te σ H R ∨ iStr te σ H R)
theorem piU {tg e : Expr} {te : TE} (he : PE X e te) (hc : X.calm = true := by rfl) (h : X.K = K := by rfl) : PI X tg e (uIter K te) := by
  subst h
  refine ⟨fun pins s σ H R I q => ?_⟩
  rcases q with q | q | q
  · exact (pi_list (tg := tg) he).run pins s σ H R I q
  · exact (pi_tup (tg := tg) he).run pins s σ H R I q
  · exact (pi_str (tg := tg) he).run pins s σ H R I q
theorem pe_fldK {e : Expr} {ta : TE} {f : Str} {pos : Pos} (he : PE X e ta) (hb : attributeBase e f X.env (eval e X.env) = eval e X.env) (h : X.K = K := by rfl) : PE X (.Attribute e f pos) (tFld K ta f) := by
  subst h
  exact pe_fld he hb
end
section
variable {K : PySem.W.Frag} {C : Addr} {S : Sta} {Kn : KE}
theorem ri_Ul {te : TE} {Kn : List D → Sta → Prop} (h : RdE K C te S fun r S1 => ∃ ds, r = .val (.lst ds) ∧ Kn ds S1) : RdI K C (uIter K te) S Kn := fun Z ps σ Hf H R ok q => .inl (ri_list h Z ps σ Hf H R ok q)
theorem ri_Ut {te : TE} {Kn : List D → Sta → Prop} (h : RdE K C te S fun r S1 => ∃ ds, r = .val (.tup ds) ∧ Kn ds S1) : RdI K C (uIter K te) S Kn := fun Z ps σ Hf H R ok q => .inr (.inl (ri_tup h Z ps σ Hf H R ok q))
theorem ri_Us {te : TE} {Kn : List D → Sta → Prop} (h : RdE K C te S fun r S1 => ∃ z, r = .val (.str z) ∧ Kn (signs z) S1) : RdI K C (uIter K te) S Kn := fun Z ps σ Hf H R ok q => .inr (.inr (ri_str h Z ps σ Hf H R ok q))
theorem rs_l {r r' : V → Option Int → Option Int → Hp → VK → Prop} {a : Sl} {lo hi : Option Int} (h : RsD K C r a lo hi S Kn) : RsD K C (fun x lo hi H Q => r x lo hi H Q ∨ r' x lo hi H Q) a lo hi S Kn := fun Z ps σ Hf H Q x ok ha q => .inl (h Z ps σ Hf H Q x ok ha q)
theorem rs_r {r r' : V → Option Int → Option Int → Hp → VK → Prop} {a : Sl} {lo hi : Option Int} (h : RsD K C r' a lo hi S Kn) : RsD K C (fun x lo hi H Q => r x lo hi H Q ∨ r' x lo hi H Q) a lo hi S Kn := fun Z ps σ Hf H Q x ok ha q => .inr (h Z ps σ Hf H Q x ok ha q)
theorem rs_Us {z : Str} {lo hi : Option Int} (hz : z.length ≤ sizeLine) (k : Kn (.val (.str (cutS z lo hi))) S) : RsD K C (uSl K) (.val (.str z)) lo hi S Kn := rs_l (rs_str hz k)
theorem rs_Ux {ds : List Nat} {lo hi : Option Int} (a c : Nat) (hl : ds.length ≤ 100000) (h1 : lo = some (a : Int)) (h2 : hi = some (c : Int)) (k : Kn (.val (txd ((ds.drop a).take (c - a)))) S) : RsD K C (uSl K) (.val (txd ds)) lo hi S Kn := rs_l (rs_tx hl h1 h2 k)
theorem cut_fromN (ds : List Nat) (a : Nat) : cutS (tx ds) (some (a : Int)) none = tx (ds.drop a) := by
  rw [cut_tx]
  have e1 : HT.sIx ds.length 0 (some (a : Int)) = min a ds.length := by
    unfold HT.sIx
    have h0 : ¬ ((a : Int) < 0) := by omega
    simp only [h0, if_false]
    omega
  have e2 : HT.sIx ds.length ds.length none = ds.length := rfl
  rw [e1, e2]
  by_cases h : a ≤ ds.length
  · rw [Nat.min_eq_left h, List.take_of_length_le (by rw [List.length_drop]; exact Nat.le_refl _)]
  · rw [Nat.min_eq_right (by omega), List.drop_length, List.take_nil, List.drop_eq_nil_of_le (by omega)]
theorem cut_toN (ds : List Nat) (c : Nat) : cutS (tx ds) none (some (c : Int)) = tx (ds.take c) := by
  have h := cut_mid ds 0 c
  rw [cut_tx] at h ⊢
  rw [Nat.sub_zero, List.drop_zero] at h
  exact h
theorem rs_Uxf {ds : List Nat} {lo : Option Int} (a : Nat) (hl : ds.length ≤ 100000) (h1 : lo = some (a : Int)) (k : Kn (.val (txd (ds.drop a))) S) : RsD K C (uSl K) (.val (txd ds)) lo none S Kn := by
  subst h1
  exact rs_Us (by rw [tx_len]; exact Nat.le_trans hl (by decide)) (by rw [cut_fromN]; exact k)
theorem rs_Uxt {ds : List Nat} {hi : Option Int} (c : Nat) (hl : ds.length ≤ 100000) (h1 : hi = some (c : Int)) (k : Kn (.val (txd (ds.take c))) S) : RsD K C (uSl K) (.val (txd ds)) none hi S Kn := by
  subst h1
  exact rs_Us (by rw [tx_len]; exact Nat.le_trans hl (by decide)) (by rw [cut_toN]; exact k)
theorem rs_Ul {ds : List D} {lo hi : Option Int} (k : Kn (.val (.lst (cutD ds lo hi))) S) : RsD K C (uSl K) (.val (.lst ds)) lo hi S Kn := rs_r (rs_l (rs_lst k))
theorem rs_Ut {ds : List D} {lo hi : Option Int} (k : Kn (.val (.tup (cutD ds lo hi))) S) : RsD K C (uSl K) (.val (.tup ds)) lo hi S Kn := rs_r (rs_r (rs_tup k))
/-- one of two ways of a call -/
theorem rc_l {r r' : List V → Hp → VK → Prop} {as : List Sl} (h : RcD K C r as S Kn) : RcD K C (fun vs H Q => r vs H Q ∨ r' vs H Q) as S Kn := fun Z ps σ Hf H Q vs ok ha q => .inl (h Z ps σ Hf H Q vs ok ha q)
theorem rc_r {r r' : List V → Hp → VK → Prop} {as : List Sl} (h : RcD K C r' as S Kn) : RcD K C (fun vs H Q => r vs H Q ∨ r' vs H Q) as S Kn := fun Z ps σ Hf H Q vs ok ha q => .inr (h Z ps σ Hf H Q vs ok ha q)
theorem rc_Utx {ds : List Nat} (hl : ds.length ≤ 100000) (k : Kn (.val (nat ds.length)) S) : RcD K C (uLen K) [.val (txd ds)] S Kn := rc_r (rc_len_str (by rw [tx_len]; exact Nat.le_trans hl (by decide)) (by rw [tx_len]; exact k))
theorem rc_Ul {ds : List D} (k : Kn (.val (nat ds.length)) S) : RcD K C (uLen K) [.val (.lst ds)] S Kn := rc_l (rc_len_lst k)
theorem rc_Ut {ds : List D} (k : Kn (.val (nat ds.length)) S) : RcD K C (uLen K) [.val (.tup ds)] S Kn := rc_l (rc_len_tup k)
theorem rc_Uscr {ns : List Int} (k : Kn (.val (nat ns.length)) S) : RcD K C (uLen K) [.val (.scr ns)] S Kn := rc_l (rc_len_scr k)
theorem rc_Uown {n : Nat} {ds : List D} (hn : S.o[n]? = some (.lst ds)) (k : Kn (.val (nat ds.length)) S) : RcD K C (uLen K) [.ptr n] S Kn := rc_l (rc_len_own hn k)
/-! sums -/
theorem r2_addI {i j : Int} (k : Kn (.val (.int (i + j))) S) : R2D K C (uAdd K) (.val (.int i)) (.val (.int j)) S Kn := r2_l (r2_ints k)
theorem r2_addX {a b : List Nat} (hl : a.length + b.length ≤ 100000) (k : Kn (.val (txd (a ++ b))) S) : R2D K C (uAdd K) (.val (txd a)) (.val (txd b)) S Kn := r2_r (r2_l (r2_catS (by rw [tx_len, tx_len]; exact Nat.le_trans hl (by decide)) (by rw [tx_cat]; exact k)))
theorem r2_addS {y z : Str} (hl : y.length + z.length ≤ sizeLine) (k : Kn (.val (.str (y ++ z))) S) : R2D K C (uAdd K) (.val (.str y)) (.val (.str z)) S Kn := r2_r (r2_l (r2_catS hl k))
theorem r2_addL {ds es : List D} (hl : ds.length + es.length ≤ sizeLine) (k : Kn (.val (.lst (ds ++ es))) S) : R2D K C (uAdd K) (.val (.lst ds)) (.val (.lst es)) S Kn := r2_r (r2_r (r2_l (r2_catL hl k)))
theorem r2_addT {ds es : List D} (hl : ds.length + es.length ≤ sizeLine) (k : Kn (.val (.tup (ds ++ es))) S) : R2D K C (uAdd K) (.val (.tup ds)) (.val (.tup es)) S Kn := r2_r (r2_r (r2_r (r2_catT hl k)))
theorem r2_mulX {ds : List Nat} {n : Nat} (h1 : 1 ≤ n) (h2 : n ≤ 1000) (h3 : 1 ≤ ds.length) (h4 : ds.length ≤ 100) (k : Kn (.val (txd (List.replicate n ds).flatten)) S) : R2D K C (uMul K) (.val (txd ds)) (.val (nat n)) S Kn := by
  refine r2_r (r2_r (r2_of2 fun Z ps σ Hf H Q x y ok (ha : x = _) (hb : y = _) q _ => ⟨tx ds, n, ha, hb, h1, h2, by rw [tx_len]; exact h3, by rw [tx_len]; exact h4, q _ _ k ?_⟩))
  show V.str _ = V.str _
  congr 1
  show Str.mk (List.replicate n (cod ds)).flatten.toArray = Str.mk (cod (List.replicate n ds).flatten).toArray
  unfold cod
  rw [List.map_flatten, List.map_replicate]
theorem r2_mulI {i j : Int} (h : CMul i j) (k : Kn (.val (.int (i * j))) S) : R2D K C (uMul K) (.val (.int i)) (.val (.int j)) S Kn := r2_l (r2_intC h k)
/-! items -/
theorem r2_ixUt {ds : List D} {i : Int} {d : D} (h : atI ds i = some d) (k : Kn (.val d) S) : R2D K C (uIx K) (.val (.tup ds)) (.val (.int i)) S Kn := r2_l (r2_ixT h k)
theorem r2_ixUl {ds : List D} {i : Int} {d : D} (h : atI ds i = some d) (k : Kn (.val d) S) : R2D K C (uIx K) (.val (.lst ds)) (.val (.int i)) S Kn := r2_r (r2_l (r2_ixL h k))
theorem r2_ixUo {n : Nat} {ds : List D} {i : Int} {d : D} (hn : S.o[n]? = some (.lst ds)) (h : atI ds i = some d) (k : Kn (.val d) S) : R2D K C (uIx K) (.ptr n) (.val (.int i)) S Kn := r2_r (r2_l (r2_ixLO hn h k))
theorem r2_ixUx {ds : List Nat} {i : Int} {d : Nat} (hl : ds.length ≤ 100000) (h : atI ds i = some d) (k : Kn (.val (txd [d])) S) : R2D K C (uIx K) (.val (txd ds)) (.val (.int i)) S Kn := by
  refine r2_r (r2_r (r2_ixS (c := 97 + d) (by rw [tx_len]; exact Nat.le_trans hl (by decide)) ?_ k))
  have e : (tx ds).cps.toList = cod ds := rfl
  obtain ⟨j, hj, hj2⟩ := atI_len (ys := cod ds) (by rw [cod_len]) h
  rw [e]
  refine hj2 _ ?_
  unfold cod
  rw [List.getElem?_map, hj]
  rfl
/-! equal or not -/
theorem r2_eqUa {d e : D} {x y : V} (hd : atomV d = some x) (he : atomV e = some y) (hs : scal x y = true) (k : Kn (.val (.bl (decide (x = y)))) S) : R2D K C (uEq K) (.val d) (.val e) S Kn := r2_l (r2_eqA hd he hs k)
theorem r2_neUa {d e : D} {x y : V} (hd : atomV d = some x) (he : atomV e = some y) (hs : scal x y = true) (k : Kn (.val (.bl (!decide (x = y)))) S) : R2D K C (uNe K) (.val d) (.val e) S Kn := r2_l (r2_neA hd he hs k)
theorem r2_eqUs {d e : D} (hd : Pl 64 d) (h : d = e) (k : Kn (.val (.bl true)) S) : R2D K C (uEq K) (.val d) (.val e) S Kn := r2_r (r2_eqSame hd h k)
theorem r2_neUs {d e : D} (hd : Pl 64 d) (h : d = e) (k : Kn (.val (.bl false)) S) : R2D K C (uNe K) (.val d) (.val e) S Kn := r2_r (r2_neSame hd h k)
theorem r2_eqUd {d e : D} (hd : Pl 64 d) (he : Pl 64 e) (k : Kn (.val (.bl (PyData.eqv d.py e.py))) S) : R2D K C (uEq K) (.val d) (.val e) S Kn := r2_r (r2_eqD hd he k)
theorem r2_neUd {d e : D} (hd : Pl 64 d) (he : Pl 64 e) (k : Kn (.val (.bl (!PyData.eqv d.py e.py))) S) : R2D K C (uNe K) (.val d) (.val e) S Kn := r2_r (r2_neD hd he k)
theorem r2_eqI {i j : Int} (k : Kn (.val (.bl (decide (i = j)))) S) : R2D K C (uEq K) (.val (.int i)) (.val (.int j)) S Kn := r2_eqUa rfl rfl rfl (by
  have e : decide (V.int i = V.int j) = decide (i = j) := by
    by_cases h : i = j
    · rw [decide_eq_true h, h, decide_eq_true rfl]
    · rw [decide_eq_false h, decide_eq_false fun z => h (V.int.inj z)]
  rw [e]
  exact k)
theorem r2_neI {i j : Int} (k : Kn (.val (.bl (!decide (i = j)))) S) : R2D K C (uNe K) (.val (.int i)) (.val (.int j)) S Kn := r2_neUa rfl rfl rfl (by
  have e : decide (V.int i = V.int j) = decide (i = j) := by
    by_cases h : i = j
    · rw [decide_eq_true h, h, decide_eq_true rfl]
    · rw [decide_eq_false h, decide_eq_false fun z => h (V.int.inj z)]
  rw [e]
  exact k)
/-! in a row of numbers, a sign in a text -/
theorem r2_inT {i : Int} {ns : List Int} {b : Bool} (k : Kn (.val (.bl (if b then !decide (i ∈ ns) else decide (i ∈ ns)))) S) : R2D K C (rIn K b) (.val (.int i)) (.val (.tup (ns.map D.int))) S Kn :=
  r2_of2 fun Z ps σ Hf H Q x y ok ha hb q _ => by
    have ha : x = .int i := ha
    subst ha
    obtain ⟨a, us, rfl, h1, h2⟩ := hb
    rw [AtL.ints] at h2
    subst h2
    refine ⟨a, _, rfl, .inr (.inl (.inl (ok.sub _ _ h1))), rfl, flat_ints ns, ?_⟩
    rw [inV_int]
    exact q _ _ k rfl
theorem r2_inLi {i : Int} {ns : List Int} {b : Bool} (k : Kn (.val (.bl (if b then !decide (i ∈ ns) else decide (i ∈ ns)))) S) : R2D K C (rIn K b) (.val (.int i)) (.val (.lst (ns.map D.int))) S Kn :=
  r2_of2 fun Z ps σ Hf H Q x y ok ha hb q _ => by
    have ha : x = .int i := ha
    subst ha
    obtain ⟨a, us, rfl, h1, h2⟩ := hb
    rw [AtL.ints] at h2
    subst h2
    refine ⟨a, _, rfl, .inl (.inl (.inl (ok.sub _ _ h1))), rfl, flat_ints ns, ?_⟩
    rw [inV_int]
    exact q _ _ k rfl
theorem r2_inUt {i : Int} {ns : List Int} (k : Kn (.val (.bl (decide (i ∈ ns)))) S) : R2D K C (uIn K) (.val (.int i)) (.val (.tup (ns.map D.int))) S Kn := r2_l (r2_inT k)
theorem r2_niUt {i : Int} {ns : List Int} (k : Kn (.val (.bl (!decide (i ∈ ns)))) S) : R2D K C (uNotIn K) (.val (.int i)) (.val (.tup (ns.map D.int))) S Kn := r2_l (r2_inT k)
theorem r2_inUl {i : Int} {ns : List Int} (k : Kn (.val (.bl (decide (i ∈ ns)))) S) : R2D K C (uIn K) (.val (.int i)) (.val (.lst (ns.map D.int))) S Kn := r2_l (r2_inLi k)
theorem r2_niUl {i : Int} {ns : List Int} (k : Kn (.val (.bl (!decide (i ∈ ns)))) S) : R2D K C (uNotIn K) (.val (.int i)) (.val (.lst (ns.map D.int))) S Kn := r2_l (r2_inLi k)
theorem r2_inUs {c : Nat} {z : Str} (k : Kn (.val (.bl (decide (c ∈ z.cps.toList)))) S) : R2D K C (uIn K) (.val (.str ⟨#[c]⟩)) (.val (.str z)) S Kn := r2_r (r2_of2 fun Z ps σ Hf H Q x y ok (ha : x = _) (hb : y = _) q _ => ⟨c, z, ha, hb, q _ _ k rfl⟩)
theorem r2_niUs {c : Nat} {z : Str} (k : Kn (.val (.bl (!decide (c ∈ z.cps.toList)))) S) : R2D K C (uNotIn K) (.val (.str ⟨#[c]⟩)) (.val (.str z)) S Kn := r2_r (r2_of2 fun Z ps σ Hf H Q x y ok (ha : x = _) (hb : y = _) q _ => ⟨c, z, ha, hb, q _ _ k rfl⟩)
theorem r2_isN {d : D} {b : Bool} (h : ∀ H v, At K C H d v → decide (v = .non) = b) (k : Kn (.val (.bl b)) S) : R2D K C (fun x y H Q => y = .non ∧ Q (.bl (decide (x = .non))) H) (.val d) (.val .non) S Kn :=
  r2_of2 fun Z ps σ Hf H Q x y ok ha (hb : y = _) q _ => ⟨hb, by rw [h Hf x ha]; exact q _ _ k rfl⟩
theorem r2_notN {d : D} {b : Bool} (h : ∀ H v, At K C H d v → decide (v = .non) = b) (k : Kn (.val (.bl (!b))) S) : R2D K C (fun x y H Q => y = .non ∧ Q (.bl (!decide (x = .non))) H) (.val d) (.val .non) S Kn :=
  r2_of2 fun Z ps σ Hf H Q x y ok ha (hb : y = _) q _ => ⟨hb, by rw [h Hf x ha]; exact q _ _ k rfl⟩
theorem non_tup {ds : List D} {H : Hp} {v : V} (h : At K C H (.tup ds) v) : decide (v = .non) = false := by
  obtain ⟨a, vs, rfl, _⟩ := h
  rfl
theorem non_non {H : Hp} {v : V} (h : At K C H .non v) : decide (v = .non) = true := decide_eq_true h
theorem rd_gc {v : V} {d : D} (hd : ∀ Hf, At K C Hf d v) (k : Kn (.val d) S) : RdE K C (tC v) S Kn := rd_k hd k
end
end DL

set_option Elab.async false
set_option linter.all false
set_option maxRecDepth 100000
set_option maxHeartbeats 1200000
namespace DL
open PySem PySem.Spec PyProof.Rows L2 WP
section
variable {K : PySem.W.Frag} {C : Addr} {S : Sta} {Kn : KE}
theorem filter_succ {α : Type} (p : α → Bool) {xs : List α} {i : Nat} {x : α} (h : xs[i]? = some x) : (xs.take (i + 1)).filter p = (xs.take i).filter p ++ if p x then [x] else [] := by
  rw [List.take_add_one, h, List.filter_append]
  congr 1
  show List.filter p [x] = _
  cases e : p x with
  | true =>
    rw [List.filter_cons_of_pos e]
    rfl
  | false =>
    rw [List.filter_cons_of_neg (by rw [e]; decide)]
    rfl
/-- [f(x) for x in xs if p(x)] -/
theorem rd_lcA {α : Type} {j : Nat} {wi : TI} {tt : TT} {te : TE} (xs : List α) (emb : α → D) (p : α → Bool) (f : α → D)
    (h : RdI K C wi S fun ds S1 => ds = xs.map emb ∧ xs.length < sizeLine ∧ (∀ x ∈ xs, ∀ o, RdT K C tt ⟨(wipeG S1.g [j]).set j (.val (emb x)), o⟩ fun b S3 => b = p x ∧ S3.o = o ∧ (p x = true → RdE K C te S3 fun r S4 => r = .val (f x) ∧ S4.o = o)) ∧
      Kn (.val (.lst ((xs.filter p).map f))) S1) : RdE K C (tLc wi (gName j) tt te [j]) S Kn := by
  refine rd_lc (js := [j]) (fun _ z => z) (fun i acc => acc = ((xs.take i).filter p).map f) ?_
  intro Z ps σ Hf H R ok q
  refine h Z ps σ Hf H R ok fun J ds S1 ps1 Hf1 H1 ⟨e1, hl, hs, hk⟩ => q J ds S1 ps1 Hf1 H1 ⟨by rw [e1, List.length_map]; exact hl, rfl, ?_, ?_⟩
  · intro i d acc hd la ha
    subst e1
    rw [List.getElem?_map] at hd
    cases hx : xs[i]? with
    | none =>
      rw [hx] at hd
      cases hd
    | some x =>
      rw [hx] at hd
      have ed : emb x = d := Option.some.inj hd
      subst ed
      refine rg_name ?_
      refine fun Z ps σ Hf H Q ok q => hs x (List.mem_of_getElem? hx) _ Z ps σ Hf H Q ok fun b S3 ps3 Hf3 H3 ⟨eb, eo, k⟩ => q b S3 ps3 Hf3 H3 ?_
      have fs := filter_succ p hx
      subst eb
      cases e : p x with
      | true =>
        refine iteT ?_
        refine fun Z ps σ Hf H Q ok q => k e Z ps σ Hf H Q ok fun r S4 ps4 Hf4 H4 v ⟨er, eo4⟩ => q r S4 ps4 Hf4 H4 v ⟨f x, er, eo4, ?_⟩
        rw [fs, e, ha, List.map_append]
        rfl
      | false =>
        refine iteF ⟨eo, ?_⟩
        rw [fs, e, ha]
        show _ = List.map f (_ ++ [])
        rw [List.append_nil]
  · intro acc la ha
    rw [e1, List.length_map, List.take_length] at ha
    rw [ha]
    exact hk
/-- [f(x) for x in xs] -/
theorem rd_lcM {α : Type} {j : Nat} {wi : TI} {te : TE} (xs : List α) (emb : α → D) (f : α → D)
    (h : RdI K C wi S fun ds S1 => ds = xs.map emb ∧ xs.length < sizeLine ∧ (∀ x ∈ xs, ∀ o, RdE K C te ⟨(wipeG S1.g [j]).set j (.val (emb x)), o⟩ fun r S4 => r = .val (f x) ∧ S4.o = o) ∧
      Kn (.val (.lst (xs.map f))) S1) : RdE K C (tLc wi (gName j) tYes te [j]) S Kn := by
  refine rd_lcA xs emb (fun _ => true) f ?_
  refine fun Z ps σ Hf H R ok q => h Z ps σ Hf H R ok fun J ds S1 ps1 Hf1 H1 ⟨e1, hl, hs, hk⟩ => q J ds S1 ps1 Hf1 H1 ⟨e1, hl, fun x hx o => ?_, by rw [List.filter_eq_self.mpr fun _ _ => rfl]; exact hk⟩
  exact rd_yes ⟨rfl, rfl, fun _ => hs x hx o⟩
end
end DL

set_option Elab.async false
set_option linter.all false
set_option maxRecDepth 100000
set_option maxHeartbeats 1200000
namespace DL
open PySem PySem.Spec PyProof.Rows L2 WP
/-! ### own rules: a class held by a local name is called; a text read backwards -/
def tMakeL (i : Nat) (C : Addr) (sp : Sp) (E : XK) (t : TA) : TE := fun σ H Q => σ[i]? = some (some (.ref C)) ∧ tMake C sp [] E t σ H Q
section
variable {X : Cx} {CX : CXT} {k i : Nat} {f C : Addr} {fd : FuncData} {ps : List Str} {sp : Sp} {E : XK} {x : Str} {p pos : Pos} {e : Expr} {es : List Expr} {t : TA}
theorem pe_makeL (M : Mk X.K C f) (F : FnOk X.prog X.w X.K X.mg X.base CX k f fd ps sp) (hr : Room (k + 1) X.A) (hN : X.N[i]? = some x) (hv : Vis X.env.scope x) (hb : Binds X.K fd ps []) (hx : Passes CX X E) (ha : PA X (e :: es) t)
    (hdb : (x == ("__debug__" : Str)) = false := by decide) (hcd : (x == ("__classdict__" : Str)) = false := by decide)
    (he : starEach (e :: es) X.env = (false, eval e X.env) :: starEach es X.env := by rfl) (hpl : (backTo pos (starEach es X.env)).any (·.1) = false := by rfl) : PE X (.Call (.Name x p) (e :: es) [] pos) (tMakeL i C sp E t) := by
  refine ⟨fun pins s σ H Q I h => ?_⟩
  obtain ⟨hs, ht⟩ := h
  refine wpAny_Call_Name_kw (thn ((pe_var (pos := p) hN hv hdb hcd).run pins s σ H (fun v H1 => v = .ref C ∧ H1 = H) I ⟨.ref C, hs, rfl, rfl⟩) fun u s1 ⟨v, H1, I1, r1, q1⟩ => ?_)
  obtain ⟨rfl, rfl⟩ := q1
  cases r1
  refine PySem.W.callWith_K (h₀ := X.base) I.ok.mod.kin M.kp (thn (ha.run pos pins s1 σ _ _ I1 ht) fun us s2 ⟨vs, H2, I2, r, q⟩ => ⟨I2.kIn, ?_⟩) he hpl
  exact run_make M F hr hb .nil hx I2 r q
end
def tRevS (te : TE) : TE := fun σ H Q => te σ H fun x H1 => ∃ z : Str, x = .str z ∧ z.length ≤ sizeLine ∧ Q (.str ⟨z.cps.toList.reverse.toArray⟩) H1
theorem rev_range {α : Type} [Inhabited α] (c : Array α) (d : α) : ((List.range c.size).map fun k => c.getD (c.size - 1 - k) d) = c.toList.reverse := by
  apply List.ext_getElem
  · rw [List.length_map, List.length_range, List.length_reverse, Array.length_toList]
  · intro n h1 h2
    rw [List.length_map, List.length_range] at h1
    rw [List.getElem_map, List.getElem_range, List.getElem_reverse]
    have h3 : c.size - 1 - n < c.size := by omega
    rw [Array.getD_eq_getD_getElem?, Array.getElem?_eq_getElem h3]
    simp only [Option.getD_some, Array.length_toList, Array.getElem_toList]
theorem pe_revS {X : Cx} {e : Expr} {te : TE} {k : Nat} {p1 p2 p3 pos : Pos} (he : PE X e te) : PE X (.Subscript e (.Slice none none (some (.UnaryOp .USub (.Constant (.int 1) k p1) p2)) p3) pos) (tRevS te) := by
  refine ⟨fun pins s σ H Q I h => ?_⟩
  refine Subscript_ (thn (he.run pins s σ H _ I h) fun v s1 ⟨x, H1, I1, r1, q1⟩ => ?_)
  obtain ⟨z, rfl, hz, q⟩ := q1
  obtain ⟨tz, rfl⟩ := r1
  have hst : PO X (some (.UnaryOp .USub (.Constant (.int 1) k p1) p2)) (tPart (tUn (rU fun i => .int (-i)) (tC (.int 1)))) := po_some (pe_un un_neg pe_int)
  refine wpAny_Slice (thn (po_none.run pins s1 σ H1 (fun o H2 => o = none ∧ H2 = H1) I1 ⟨rfl, rfl⟩) fun vl s2 ⟨l, H2, I2, pl, el, e2⟩ => ?_)
  subst el e2
  refine thn (po_none.run pins s2 σ H2 (fun o H3 => o = none ∧ H3 = H2) I2 ⟨rfl, rfl⟩) fun vu s3 ⟨u, H3, I3, pu, eu, e3⟩ => ?_
  subst eu e3
  refine thn (hst.run pins s3 σ H3 (fun o H4 => o = some (-1) ∧ H4 = H3) I3 ⟨1, rfl, -1, rfl, rfl, rfl⟩) fun vs s4 ⟨o, H4, I4, ps, eo, e4⟩ => ?_
  subst eo e4
  have I5 : Inv X pins σ H4 { s4 with heap := s4.heap.push { cls := .type "slice", data := .fields #[vl, vu, vs] } } := I4.kept (t' := s4.toks) fun b ob q => Heap.get?_push_of_some _ q
  obtain ⟨l, rfl, el⟩ := IsPart.raw pl
  obtain ⟨u, rfl, eu⟩ := IsPart.raw pu
  obtain ⟨st, rfl, es⟩ := IsPart.raw ps
  have el' : l = none := by cases l with | none => rfl | some a => cases el
  have eu' : u = none := by cases u with | none => rfl | some a => cases eu
  obtain ⟨tk, est⟩ : ∃ tk, st = some (-1, tk) := by
    cases st with
    | none => cases es
    | some a =>
      obtain ⟨a1, a2⟩ := a
      have : (-1 : Int) = a1 := by
        have := es
        have h9 : a1 = -1 := by simpa using this
        exact h9.symm
      exact ⟨a2, by rw [← this]⟩
  subst el' eu' est
  show wpAny (model X.prog X.w) X.A (subscriptTail e (.Slice none none (some (.UnaryOp .USub (.Constant (.int 1) k p1) p2)) p3) (.str z tz) (.ref s4.heap.objs.size)) (EP X pins σ Q) X.xe _
  refine tail_any (ops := [.str z tz, .ref s4.heap.objs.size]) (typeIs_str _ _ _) (F.slot_str_getitem.lookup) ?_ (by with_unfolding_all rfl)
  refine wpAny_getItem_str_slice (l := none) (u := none) (st := some (-1, tk)) ⟨_, Heap.get?_push_size _ rfl, rfl, rfl⟩ rfl ?_
  have e5 : (Txt.sliceBy z none none (-1, tk)) = ⟨z.cps.toList.reverse.toArray⟩ := by
    have h1 := step_rev_list z tk
    rw [show z.length = z.cps.size from rfl, rev_range] at h1
    generalize Txt.sliceBy z none none (-1, tk) = w at h1
    obtain ⟨c⟩ := w
    have h1 : c.toList = z.cps.toList.reverse := h1
    rw [← h1]
  have hl := Txt.sliceBy_le z none none (-1, tk) (show (-1 : Int) ≠ 0 by decide)
  rw [← e5] at q
  unfold Txt.sliceBy at q hl
  unfold sliceMade
  split at q
  · rename_i c
    rw [if_pos c]
    exact ⟨.str z, _, I5, ⟨_, rfl⟩, q⟩
  · rename_i c
    rw [if_neg c] at hl ⊢
    exact ⟨Nat.le_trans hl hz, .str _, _, I5.tok _, ⟨_, rfl⟩, q⟩
end DL

set_option Elab.async false
set_option linter.all false
set_option maxRecDepth 100000
set_option maxHeartbeats 1200000
namespace DL
open PySem PySem.Spec PyProof.Rows L2 WP
section
variable {K : PySem.W.Frag} {C : Addr} {S : Sta} {Kn : KE} {E : XK} {te : TE} {t ta : TA}
/-! ### a rule is made -/
theorem rd_make (h : RdA K C t S fun as S1 => ∃ s w k tb, as = [.val (nat s), .val (nat w), .val (nat k), .val (.lst (tb.map nat))] ∧ OkG s w k ∧ Tab s w k tb ∧ tb.length ≤ 100000 ∧ Kn (.val (.rul s w k tb)) S1) : RdE K C (tMake C (spInit C) [] E t) S Kn := by
  intro Z ps σ Hf H Q ok q
  refine h Z ps σ Hf H _ ok fun as S1 ps1 Hf1 H1 vs ⟨s, w, k, tb, eas, og, ht, hl, kk⟩ e1 p1 ok1 av => ?_
  subst eas
  obtain ⟨v1, _, rfl, (a1 : v1 = _), v2, _, rfl, (a2 : v2 = _), v3, _, rfl, (a3 : v3 = _), v4, _, rfl, ⟨p, us, rfl, hp, au⟩, (a5 : _ = [])⟩ := sls_vals (ds := [nat s, nat w, nat k, .lst (tb.map nat)]) av
  subst a1 a2 a3 a5
  have au := atL_nats.mp au
  subst au
  intro x dx nx ndx nex
  have s1 : Same H1 (upd (upd H1 dx (.own x)) x (.ins C dx [])) := fun b o e => by
    rw [upd_ne (ne_of_none e nx), upd_ne (ne_of_none e ndx)]
    exact e
  refine ⟨x, dx, p, s, w, k, tb, rfl, upd_same, og, s1 _ _ (ok1.sub _ _ hp), ht, hl, fun H2 hx2 k2 => ⟨rfl, ?_⟩⟩
  have s2 : Same H1 H2 := fun c o e => k2 c o (s1 c o e) (ne_of_none e nx)
  obtain ⟨dx', u, h1, h2, h3⟩ := hx2.back s1
  have f1 : Same Hf1 fun a => if H1 a = none then H2 a else Hf1 a := fun a o e => by
    have h := ok1.sub a o e
    show (if H1 a = none then H2 a else Hf1 a) = _
    rw [if_neg (by rw [h]; exact fun z => by cases z)]
    exact e
  refine q (.val (.rul s w k tb)) S1 ps1 (fun a => if H1 a = none then H2 a else Hf1 a) H2 (.ref x) kk (e1.trans f1) p1 (ok1.grow f1 s2 (fun a o e => ?_) fun a ha hn => ?_) ⟨x, rfl, dx', u, ?_, ?_⟩
  · have e : (if H1 a = none then H2 a else Hf1 a) = some o := e
    by_cases z : H1 a = none
    · rw [if_pos z] at e
      exact e
    · rw [if_neg z] at e
      exact s2 _ _ (ok1.sub _ _ e)
  · show (if H1 a = none then H2 a else Hf1 a) = none
    rw [if_neg ha]
    exact hn
  · show (if H1 x = none then H2 x else Hf1 x) = _
    rw [if_pos nx]
    exact h1
  · show (if H1 u = none then H2 u else Hf1 u) = _
    rw [if_pos h3]
    exact h2
theorem rd_makeL {i : Nat} (hc : S.g[i]? = some (.val .cls)) (h : RdA K C t S fun as S1 => ∃ s w k tb, as = [.val (nat s), .val (nat w), .val (nat k), .val (.lst (tb.map nat))] ∧ OkG s w k ∧ Tab s w k tb ∧ tb.length ≤ 100000 ∧ Kn (.val (.rul s w k tb)) S1) : RdE K C (tMakeL i C (spInit C) E t) S Kn := by
  intro Z ps σ Hf H Q ok q
  obtain ⟨v, h1, (h2 : v = _)⟩ := ok.slot i _ hc (fun z => by cases z)
  subst h2
  exact ⟨h1, rd_make (E := E) h Z ps σ Hf H Q ok q⟩
/-- a class's method, the class as the first argument -/
theorem rd_cmeth {sp : Sp} (h : RdE K C te S fun r S1 => r = .val .cls ∧ RdA K C t S1 fun as S2 => RcD K C (OnR sp E) (.val .cls :: as) S2 Kn) : RdE K C (ClX.tCMeth C sp E te t) S Kn := by
  intro Z ps σ Hf H Q ok q
  refine h Z ps σ Hf H _ ok fun r S1 ps1 Hf1 H1 v ⟨er, kk⟩ e1 p1 ok1 av => ?_
  subst er
  refine ⟨av, ?_⟩
  refine kk Z ps1 σ Hf1 H1 _ ok1 fun as S2 ps2 Hf2 H2 vs k2 e2 p2 ok2 a2 => ?_
  exact k2 Z ps2 σ Hf2 H2 Q _ ok2 ⟨_, vs, rfl, rfl, a2⟩ fun r S' ps' Hf' H' v kk e p ok' av => q r S' ps' Hf' H' v kk (e1.trans (e2.trans e)) (p1.trans (p2.trans p)) ok' av
/-- a property of a rule -/
theorem rd_prop {sp : Sp} (h : RdE K C te S fun r S1 => ∃ s w k tb, r = .val (.rul s w k tb) ∧ RcD K C (OnR sp E) [.val (.rul s w k tb)] S1 Kn) : RdE K C (tProp C sp [] E te) S Kn := by
  intro Z ps σ Hf H Q ok q
  refine h Z ps σ Hf H _ ok fun r S1 ps1 Hf1 H1 v ⟨s, w, k, tb, er, kk⟩ e1 p1 ok1 av => ?_
  subst er
  obtain ⟨x, rfl, dx, tt, hx, ht⟩ := av
  refine ⟨x, dx, _, rfl, ok1.sub _ _ hx, ?_⟩
  exact kk Z ps1 σ Hf1 H1 Q _ ok1 ⟨_, [], rfl, ⟨x, rfl, dx, tt, hx, ht⟩, rfl⟩ fun r S' ps' Hf' H' v kk e p ok' av => q r S' ps' Hf' H' v kk (e1.trans e) (p1.trans p) ok' av
/-- a def over data, further arguments filled up -/
theorem rc_Dd {fx : List D → (D → Prop) → Prop} {ds es : List D} {dvs : List V} (he : ∀ H, AtL K C H es dvs) (h : fx (ds ++ es) fun d => Kn (.val d) S) : RcD K C (OnR (fun vs H Q E => spD K C fx (vs ++ dvs) H Q E) E) (ds.map Sl.val) S Kn := by
  intro Z ps σ Hf H Q vs ok av q
  refine ⟨Hf, ds ++ es, _, ok.sub, (sls_vals av).app (he Hf), h, fun d k H' Hf' v e1 e2 e3 fr hv => ?_⟩
  exact q _ S ps Hf' H' v k e2 (prefix_refl _) (ok.grow e2 e1 e3 fr) hv
/-! ### texts backwards -/
theorem rd_revS (h : RdE K C te S fun r S1 => ∃ ds, r = .val (txd ds) ∧ ds.length ≤ 100000 ∧ Kn (.val (txd ds.reverse)) S1) : RdE K C (tRevS te) S Kn := by
  intro Z ps σ Hf H Q ok q
  refine h Z ps σ Hf H _ ok fun r S1 ps1 Hf1 H1 v ⟨ds, er, hl, kk⟩ e1 p1 ok1 av => ?_
  subst er
  have av : v = .str (tx ds) := av
  subst av
  refine ⟨tx ds, rfl, by rw [tx_len]; exact Nat.le_trans hl (by decide), q _ S1 ps1 Hf1 H1 _ kk e1 p1 ok1 ?_⟩
  show V.str _ = V.str _
  congr 1
  show Str.mk (cod ds).reverse.toArray = Str.mk (cod ds.reverse).toArray
  unfold cod
  rw [List.map_reverse]
/-! ### isinstance of a built-in class -/
def Kind (nm : String) (d : D) (b : Bool) : Prop := (∃ z, d = .str z ∧ kitB "str" nm = some b) ∨ (∃ i, d = .int i ∧ kitB "int" nm = some b) ∨ (∃ x, d = .bl x ∧ kitB "bool" nm = some b)
theorem rd_isi {nm : String} (h : RdE K C te S fun r S1 => ∃ d b, r = .val d ∧ Kind nm d b ∧ Kn (.val (.bl b)) S1) : RdE K C (tCB (rIsi K) (tCons te (tCons (tC (.ty nm)) tNil))) S Kn := by
  intro Z ps σ Hf H Q ok q
  refine h Z ps σ Hf H _ ok fun r S1 ps1 Hf1 H1 v ⟨d, b, er, hk, kk⟩ e1 p1 ok1 av => ?_
  subst er
  have fin : Q (.bl b) H1 := q _ S1 ps1 Hf1 H1 _ kk e1 p1 ok1 rfl
  rcases hk with ⟨z, rfl, hk⟩ | ⟨i, rfl, hk⟩ | ⟨x, rfl, hk⟩
  · have av : v = .str z := av
    subst av
    exact ⟨.str z, .ty nm, .type "str", .type nm, b, rfl, .ty _, .base (.str _), kit_ty hk, fin⟩
  · have av : v = .int i := av
    subst av
    exact ⟨.int i, .ty nm, .type "int", .type nm, b, rfl, .ty _, .base (.int _), kit_ty hk, fin⟩
  · have av : v = .bl x := av
    subst av
    exact ⟨.bl x, .ty nm, .type "bool", .type nm, b, rfl, .ty _, .base (.bl _), kit_ty hk, fin⟩
/-! ### built-ins over lists -/
theorem atL_bls {bs : List Bool} {H : Hp} {vs : List V} : AtL K C H (bs.map D.bl) vs ↔ vs = bs.map V.bl := AtL.map_iff fun _ _ => Iff.rfl
theorem rc_all {bs : List Bool} (k : Kn (.val (.bl (bs.all id))) S) : RcD K C (rAll K) [.val (.lst (bs.map D.bl))] S Kn :=
  rc_of fun Z ps σ Hf H Q vs ok ha q _ => by
    obtain ⟨v, rfl, a, us, rfl, h1, h2⟩ := sls1 ha
    have h2 := atL_bls.mp h2
    subst h2
    exact ⟨a, bs, rfl, .inl (.inl (ok.sub _ _ h1)), q _ _ k rfl⟩
theorem rc_min {ns : List Nat} (h0 : 0 < ns.length) (k : ∀ m, m ∈ ns → (∀ y ∈ ns, m ≤ y) → Kn (.val (nat m)) S) : RcD K C (rMin K) [.val (.lst (ns.map nat))] S Kn :=
  rc_of fun Z ps σ Hf H Q vs ok ha q _ => by
    obtain ⟨v, rfl, a, us, rfl, h1, h2⟩ := sls1 ha
    have h2 := atL_nats.mp h2
    subst h2
    refine ⟨a, ns.map Int.ofNat, rfl, ?_, by rw [List.length_map]; exact h0, fun m hm hy => ?_⟩
    · rw [List.map_map]
      exact .inl (.inl (ok.sub _ _ h1))
    · obtain ⟨n, hn, rfl⟩ := List.mem_map.mp hm
      exact q _ _ (k n hn fun y yn => Int.ofNat_le.mp (hy (Int.ofNat y) (List.mem_map.mpr ⟨y, yn, rfl⟩))) rfl
theorem rc_sortS {xs : List (List Nat)} (h0 : xs.length < 64) (k : ∀ ys : List Str, ys.Perm (xs.map tx) → sortedS ys = true → Kn (.val (.lst (ys.map D.str))) S) : RcD K C (rSortedS K) [.val (.lst (xs.map txd))] S Kn := by
  refine rc_of fun Z ps σ Hf H Q vs ok ha _ q => ?_
  obtain ⟨v, rfl, a, us, rfl, h1, h2⟩ := sls1 ha
  have h2 := atL_txs.mp h2
  subst h2
  refine ⟨a, xs.map tx, rfl, ?_, by rw [List.length_map]; exact h0, fun ys p hp hs np => ?_⟩
  · rw [List.map_map]
    exact .inl (.inl (ok.sub _ _ h1))
  · exact q _ p _ (k ys hp hs) np ⟨p, _, rfl, upd_same, (AtL.map_iff (f := D.str) (g := V.str) fun _ _ => Iff.rfl).mpr rfl⟩
/-! ### the first place in a list of numbers -/
theorem rd_index {te2 : TE} (h : RdE K C te S fun r S1 => ∃ ns : List Nat, r = .val (.lst (ns.map nat)) ∧ RdE K C te2 S1 fun r2 S2 => ∃ m j : Nat, r2 = .val (nat m) ∧ ns[j]? = some m ∧ (∀ i, i < j → ns[i]? ≠ some m) ∧ Kn (.val (nat j)) S2) : RdE K C (tBM K "list" (rIndex K) te (tCons te2 tNil)) S Kn := by
  intro Z ps σ Hf H Q ok q
  refine h Z ps σ Hf H _ ok fun r S1 ps1 Hf1 H1 v ⟨ns, er, k1⟩ e1 p1 ok1 av => ?_
  subst er
  obtain ⟨a, us, rfl, h1, h2⟩ := av
  have h2 := atL_nats.mp h2
  subst h2
  refine ⟨.inl ⟨rfl, _, .inl (.inl (ok1.sub _ _ h1))⟩, ?_⟩
  refine k1 Z ps1 σ Hf1 H1 _ ok1 fun r2 S2 ps2 Hf2 H2 x ⟨m, j, er2, hj, hn, kk⟩ e2 p2 ok2 ax => ?_
  subst er2
  have ax : x = .int ((m : Nat) : Int) := ax
  subst ax
  refine ⟨a, ns.map iv, .int (m : Int), j, .int (m : Int), rfl, rfl, .inl (.inl (ok2.sub _ _ (e2 _ _ h1))), rfl, List.all_eq_true.mpr fun z hz => ?_, ?_, beq_self_eq_true (m : Int), fun i z hi hz => ?_, q _ S2 ps2 Hf2 H2 _ kk (e1.trans e2) (p1.trans p2) ok2 rfl⟩
  · obtain ⟨n, _, rfl⟩ := List.mem_map.mp hz
    rfl
  · rw [List.getElem?_map, hj]
    rfl
  · rw [List.getElem?_map] at hz
    cases hq : ns[i]? with
    | none =>
      rw [hq] at hz
      cases hz
    | some n =>
      rw [hq] at hz
      cases hz
      show ((n : Int) == (m : Int)) = false
      refine beq_eq_false_iff_ne.mpr fun e => hn i hi ?_
      rw [hq, Int.ofNat.inj e]
/-! ### checks of before -/
theorem rc_seq {ds : List D} (k : Kn (.val (.bl true)) S) : RcD K C (OnR (spSeq K) E) [.val (.lst ds)] S Kn := by
  intro Z ps σ Hf H Q vs ok av q
  obtain ⟨v, rfl, a, us, rfl, h1, h2⟩ := sls1 av
  exact ⟨a, us, rfl, ok.sub _ _ h1, fun H' e => q _ S ps Hf H' _ k (Same.refl _) (prefix_refl _) (ok.grow (Same.refl _) e (ok.sub.trans e) (fun _ _ z => z)) rfl⟩
theorem rc_sizes {s w k : Nat} (og : OkG s w k) (kk : Kn (.val .non) S) : RcD K C (OnR spSizes E) [.val (nat s), .val (nat w), .val (nat k)] S Kn := by
  intro Z ps σ Hf H Q vs ok av q
  obtain ⟨v1, v2, v3, rfl, (a1 : v1 = _), (a2 : v2 = _), (a3 : v3 = _)⟩ := sls3 av
  subst a1 a2 a3
  exact ⟨s, w, k, rfl, og, q _ S ps Hf H _ kk (Same.refl _) (prefix_refl _) ok rfl⟩
end
end DL

set_option Elab.async false
set_option linter.all false
set_option maxRecDepth 100000
set_option maxHeartbeats 1200000
namespace DL
open PySem PySem.Spec PyProof.Rows L2 WP
section
variable {K : PySem.W.Frag} {C : Addr} {S : Sta} {Kn : KE} {E : XK} {te : TE} {t ta : TA}
/-! ### dicts of texts and numbers: read -/
theorem val_zip {k : Key} {v : V} : ∀ {ks : List Key} {vs : List V} {i : Nat}, ks[i]? = some k → (∀ j, j < i → ks[j]? ≠ some k) → vs[i]? = some v → valV (ks.zip vs) k = some v
  | [], _, i, h, _, _ => by cases h
  | a :: ks, [], i, _, _, h => by cases h
  | a :: ks, u :: vs, 0, h, _, hv => by
    cases h
    cases hv
    exact valV_pos (p := (_, _)) rfl
  | a :: ks, u :: vs, i + 1, h, hn, hv => by
    have h0 : ¬ a = k := fun e => hn 0 (Nat.succ_pos _) (by rw [e]; rfl)
    show valV ((a, u) :: ks.zip vs) k = _
    rw [valV_neg (p := (a, u)) h0]
    exact val_zip (i := i) h (fun j hj e => hn (j + 1) (Nat.succ_lt_succ hj) e) hv
theorem rd_dget {ty : TE} (h : RdE K C te S fun r S1 => ∃ ks ds, r = .val (.dct ks ds) ∧ RdE K C ty S1 fun r2 S2 => ∃ (k : Key) (kd d : D) (i : Nat), r2 = .val kd ∧ (∀ H v, At K C H kd v → v = kV k) ∧ ks[i]? = some k ∧ (∀ j, j < i → ks[j]? ≠ some k) ∧ ds[i]? = some d ∧ Kn (.val d) S2) : RdE K C (tDGet te ty) S Kn := by
  intro Z ps σ Hf H Q ok q
  refine h Z ps σ Hf H _ ok fun r S1 ps1 Hf1 H1 v ⟨ks, ds, er, k1⟩ e1 p1 ok1 av => ?_
  subst er
  obtain ⟨a, us, rfl, h1, hl, h2⟩ := av
  refine k1 Z ps1 σ Hf1 H1 _ ok1 fun r2 S2 ps2 Hf2 H2 x ⟨k, kd, d, i, er2, hk, hi, hn, hd, kk⟩ e2 p2 ok2 ax => ?_
  subst er2
  have ex := hk _ _ ax
  subst ex
  obtain ⟨u, hu, au⟩ := h2.get hd
  refine ⟨a, u, rfl, ?_, q _ S2 ps2 Hf2 H2 u kk (e1.trans e2) (p1.trans p2) ok2 (au.mono e2)⟩
  rw [← val_zip hi hn hu]
  exact DGet.k (ok2.sub _ _ (e2 _ _ h1))
/-! ### {x: i for i, x in enumerate(xs)} -/
abbrev keyT (ds : List Nat) : Key := .inr (tx ds)
def kvT (xs : List (List Nat)) (n : Nat) : List (Key × V) := ((xs.take n).map keyT).zip ((List.range n).map iv)
theorem tx_inj {a b : List Nat} (h : tx a = tx b) : a = b := by
  have h1 : cod a = cod b := by
    have := congrArg (fun z : Str => z.cps.toList) h
    exact this
  unfold cod at h1
  exact (List.map_inj_right fun x y e => Nat.add_left_cancel e).mp h1
theorem kvT_succ {xs : List (List Nat)} {n : Nat} {x : List Nat} (h : xs[n]? = some x) : kvT xs (n + 1) = kvT xs n ++ [(keyT x, iv n)] := by
  have hn : n < xs.length := (List.getElem?_eq_some_iff.mp h).1
  unfold kvT
  rw [List.take_add_one, h, List.range_succ, List.map_append, List.map_append, List.zip_append (by rw [List.length_map, List.length_map, List.length_range, List.length_take]; omega)]
  rfl
theorem kvT_none {xs : List (List Nat)} {n : Nat} {x : List Nat} (nd : xs.Nodup) (h : xs[n]? = some x) : valV (kvT xs n) (keyT x) = none := by
  unfold valV
  rw [Option.map_eq_none_iff, List.find?_eq_none]
  intro p hp
  have h1 : p.1 ∈ (xs.take n).map keyT := (List.of_mem_zip (show (p.1, p.2) ∈ _ from hp)).1
  obtain ⟨y, hy, e⟩ := List.mem_map.mp h1
  obtain ⟨i, hi, e2⟩ := List.getElem_of_mem hy
  rw [List.length_take] at hi
  have hn : n < xs.length := (List.getElem?_eq_some_iff.mp h).1
  intro z
  have z : p.1 = keyT x := of_decide_eq_true z
  rw [z] at e
  have e3 := tx_inj (Sum.inr.inj e)
  have e4 : xs[i]? = some x := by
    rw [List.getElem_take] at e2
    rw [List.getElem?_eq_getElem (by omega), e2, e3]
  have := (List.getElem?_inj (by omega) nd).mp (e4.trans h.symm)
  omega
theorem rd_dcE {i j : Nat} (hij : i ≠ j) (xs : List (List Nat)) (h : RdA K C ta S fun as S1 => as = [.val (.lst (xs.map txd))] ∧ xs.Nodup ∧ xs.length < sizeLine ∧ i < S1.g.length ∧ j < S1.g.length ∧
      Kn (.val (.dct (xs.map keyT) ((List.range xs.length).map nat))) S1) : RdE K C (tDc (iEnum K ta) (gTup K 2 (gCons (gName j) (gCons (gName i) gNil))) tYes (tVar i) (tVar j) [j, i]) S Kn := by
  intro Z ps σ Hf H Q ok q
  refine h Z ps σ Hf H _ ok fun as S1 ps1 Hf1 H1 vs ⟨eas, nd, hl, hi, hj, kk⟩ e1 p1 ok1 av => ?_
  subst eas
  obtain ⟨v, rfl, a, us, rfl, ha, au⟩ := sls1 av
  have au := atL_txs.mp au
  subst au
  have haH := ok1.sub _ _ ha
  refine ⟨a, xs.map tv, rfl, SqL.of haH, fun D nD => ?_⟩
  have wk := walk_enum (K := K) (a := a) (xs := xs.map tv)
  have tl : (xs.map tv).length = xs.length := List.length_map _
  rw [tl] at wk
  refine ⟨fun n m G => n + m = xs.length ∧ Same H1 G ∧ G D = some (.dK (kvT xs n)), ⟨xs.length, Nat.zero_add _, same_upd nD, upd_same⟩, fun n m G ⟨hm, sG, hD⟩ => ?_⟩
  have sq : SqL K G a (xs.map tv) := SqL.of (sG _ _ haH)
  cases m with
  | zero =>
    have e : n = xs.length := hm
    subst e
    refine .inl ⟨wk.stops G sq, ?_⟩
    have nf : Hf1 D = none := ok1.sub.free nD
    have n2 : H1 D = none := nD
    refine q _ S1 ps1 (upd Hf1 D (.dK (kvT xs xs.length))) G (.ref D) kk (e1.trans (same_upd nf)) p1 (ok1.grow (same_upd nf) sG (fun b o hb => ?_) fun b h1 h2 => ?_) ⟨D, (List.range xs.length).map iv, rfl, ?_, ?_, ?_⟩
    · by_cases z : b = D
      · subst z
        rw [upd_same] at hb
        rw [← hb]
        exact hD
      · rw [upd_ne z] at hb
        exact sG _ _ (ok1.sub _ _ hb)
    · rw [upd_ne (fun z => h1 (by rw [z]; exact n2))]
      exact h2
    · rw [upd_same]
      unfold kvT
      rw [List.take_length]
    · rw [List.length_map, List.length_map, List.length_range]
    · exact atL_nats.mpr rfl
  | succ m =>
    have hn : n < xs.length := by omega
    refine .inr ⟨wk.goes n G hn sq, fun G' => Same H1 G' ∧ G' D = some (.dK (kvT xs (n + 1))), fun G' h => ⟨m, Nat.lt_succ_self m, by omega, h⟩, fun x G' y => ?_⟩
    obtain ⟨T, v1, v2, rfl, nT, rfl, h1, h2⟩ := wk.yields n G x G' hn sq y
    have h1 := Option.some.inj h1
    subst h1
    have hx : xs[n]? = some xs[n] := List.getElem?_eq_getElem hn
    have h2 : (xs.map tv)[n]? = some v2 := h2
    rw [List.getElem?_map, hx] at h2
    have h2 := Option.some.inj h2
    subst h2
    have DT : D ≠ T := fun z => by
      rw [z] at hD
      rw [nT] at hD
      cases hD
    have l1 : (L2.wipe σ [j, i]).length = S1.g.length := by rw [wipe_length, ok1.len]
    refine ⟨T, _, rfl, SqT.of upd_same, rfl, _, _, rfl, _, _, rfl, rfl, ?_, ?_⟩
    · refine wipe_eq (by rw [List.length_set, List.length_set, wipe_length]) fun l hl => ?_
      rw [List.getElem?_set_ne (fun e => hl (by rw [← e]; simp)), List.getElem?_set_ne (fun e => hl (by rw [← e]; simp)), wipe_out hl]
    · refine yes_i ?_
      refine ⟨tv xs[n], by rw [List.getElem?_set_self (by rw [List.length_set, l1]; exact hi)], .int (n : Nat), ?_, kvT xs n, keyT xs[n], rfl, by rw [upd_ne DT]; exact hD, ?_, ?_, ?_⟩
      · rw [List.getElem?_set_ne hij, List.getElem?_set_self (by rw [l1]; exact hj)]
      · unfold kvT
        rw [List.length_zip, List.length_map, List.length_map, List.length_range, List.length_take]
        omega
      · intro b o hb
        have hbD : b ≠ D := fun z => by
          rw [z, nD] at hb
          cases hb
        have hbT : b ≠ T := fun z => by
          have := sG _ _ hb
          rw [z, nT] at this
          cases this
        rw [upd_ne hbD, upd_ne hbT]
        exact sG _ _ hb
      · rw [upd_same, putK_new _ (kvT_none nd hx), kvT_succ hx]
end
section
variable {K : PySem.W.Frag} {C : Addr}
/-- the same of a def that has defaults -/
theorem okDD {P : Program} {w : World} {mg : Str → Option Value} {base : Heap} {x qual : Str} {st : Stmt} {f : Addr} {fd : FuncData} {N ps : List Str} {k : Nat} {fx : List D → (D → Prop) → Prop} {dvs : List V} (F : FunD K x qual (defArgs st) (defBody st) (defScope st) dvs [] f fd) (S : FnScope N ps (defScope st)) (len : ∀ ds R, fx ds R → ds.length = ps.length)
    (hbody : ∀ (cdv : Value) (A : Around) (outer : List Env) (s : Shared) (H : Hp) (E : XK), Room k (A.deeper (envOfC qual (defScope st) s.heap.objs.size f cdv)) → ∀ ds R, fx ds R →
      ∃ t, PSs (cxOf CX0 P w K mg base N qual (defScope st) f cdv A outer s H E).nox (defBody st) t ∧ RdS K C 0 t ⟨ds.map Sl.val ++ List.replicate (N.length - ds.length) .any, []⟩ { nx := fun _ => R .non, rt := fun r S => ∃ d, ResD r S d ∧ R d }) :
    FnOk P w K mg base CX0 (k + 1) f fd ps (spD K C fx) := by
  refine F.ok S (fun vs H Q E h => ?_) (fun cdv A outer s H vs Q E hr h => ?_)
  · obtain ⟨Hf, ds, R, _, av, hx, _⟩ := h
    rw [av.len]
    exact len ds R hx
  · obtain ⟨Hf, ds, R, sub, av, hx, q⟩ := h
    obtain ⟨t, hd, rd⟩ := hbody cdv A outer s H E hr ds R hx
    refine ⟨t, hd.nox, ?_⟩
    have ok0 : Ok K C (fun a => if Hf a = none then H a else none) ⟨ds.map Sl.val ++ List.replicate (N.length - ds.length) .any, []⟩ [] (L2.start N vs) Hf H := {
      sub := sub
      len := by
        unfold L2.start
        rw [List.length_append, List.length_append, List.length_map, List.length_map, List.length_replicate, List.length_replicate, av.len]
      slot := fun i r a b => by
        obtain ⟨v, h1, h2⟩ := slots_start (ps := []) _ av a b
        refine ⟨v, ?_, h2⟩
        unfold L2.start
        rw [av.len]
        exact h1
      plen := rfl
      cell := fun n c p a b => by cases b
      free := fun p hp => by cases hp
      nd := List.nodup_nil
      far := fun a o e => by
        by_cases z : Hf a = none
        · rw [if_pos z] at e
          exact ⟨e, z, List.not_mem_nil⟩
        · rw [if_neg z] at e
          cases e }
    have back : ∀ {S' : Sta} {ps' : List Addr} {σ' : L2.St} {Hf' H' : Hp}, Same Hf Hf' → Ok K C (fun a => if Hf a = none then H a else none) S' ps' σ' Hf' H' → Same H H' := fun {S' ps' σ' Hf' H'} e ok' a o ha => by
      by_cases z : Hf a = none
      · exact (ok'.far a o (by rw [if_pos z]; exact ha)).1
      · cases hq : Hf a with
        | none => exact absurd hq z
        | some u =>
          have h1 := sub a u hq
          rw [ha] at h1
          rw [h1]
          exact ok'.sub a u (e a u hq)
    have fr : ∀ {S' : Sta} {ps' : List Addr} {σ' : L2.St} {Hf' H' : Hp}, Ok K C (fun a => if Hf a = none then H a else none) S' ps' σ' Hf' H' → ∀ a, H a ≠ none → Hf a = none → Hf' a = none := fun ok' a h1 h2 => by
      cases hq : H a with
      | none => exact absurd hq h1
      | some u => exact (ok'.far a u (by rw [if_pos h2]; exact hq)).2.1
    refine rd _ [] (L2.start N vs) Hf H _ ok0 (fun S' ps' σ' Hf' H' k e p ok' => q .non k H' Hf' .non (back e ok') e ok'.sub (fr ok') rfl) (fun r S' ps' σ' Hf' H' v ⟨d, hres, k⟩ e p ok' hv => ?_) (fun _ _ _ _ _ z => z.elim) (fun _ _ _ _ _ z => z.elim)
    rcases hres with rfl | ⟨n, xs, rfl, hn, rfl⟩
    · exact q d k H' Hf' v (back e ok') e ok'.sub (fr ok') hv
    · obtain ⟨p, rfl, hp⟩ := hv
      obtain ⟨vs', h1, h2⟩ := ok'.cell n _ p hn hp
      have np : Hf' p = none := ok'.free p (List.mem_of_getElem? hp)
      refine q _ k H' (upd Hf' p (.lst vs')) (.ref p) (back e ok') (e.trans (same_upd np)) (fun b u hb => ?_) (fun a ha1 ha2 => ?_) ⟨p, vs', rfl, upd_same, h2.mono (same_upd np)⟩
      · by_cases z : b = p
        · subst z
          rw [upd_same] at hb
          rw [← hb]
          exact h1
        · rw [upd_ne z] at hb
          exact ok'.sub b u hb
      · have ne : a ≠ p := fun z => by
          subst z
          cases hq : H a with
          | none => exact ha1 hq
          | some u => exact (ok'.far a u (by rw [if_pos ha2]; exact hq)).2.2 (List.mem_of_getElem? hp)
        rw [upd_ne ne]
        exact fr ok' a ha1 ha2
end
section
variable (K : PySem.W.Frag) {X : Cx}
theorem isiU (h : X.K = K := by rfl) : CallR X (.builtin "isinstance") (rIsi K) := by
  subst h
  exact call_isi
theorem allU (hc : X.calm = true) (h : X.K = K := by rfl) : CallR X (.builtin "all") (rAll K) := by
  subst h
  exact cr_all hc
theorem minU (hc : X.calm = true) (h : X.K = K := by rfl) : CallR X (.builtin "min") (rMin K) := by
  subst h
  exact cr_min hc
theorem sortSU (h : X.K = K := by rfl) : CallR X (.builtin "sorted") (rSortedS K) := by
  subst h
  exact cr_sortedS
end
theorem iteNT {A B : Prop} (h : B) : if (!true) = true then A else B := by
  rw [if_neg (by decide)]
  exact h
theorem iteNF {A B : Prop} (h : A) : if (!false) = true then A else B := by
  rw [if_pos (by decide)]
  exact h
end DL

set_option Elab.async false
set_option linter.all false
set_option maxRecDepth 100000
set_option maxHeartbeats 1200000
namespace DL
open PySem PySem.Spec PyProof.Rows L2 WP
/-! ### the picked places, as one list -/
section
variable {s w k : Nat} {tb ds : List Nat}
def pks (s w k : Nat) (tb ds : List Nat) : List Nat := (List.range ds.length).filter fun a => pkd s w k tb ds a
theorem pkd_iffN {a : Nat} : pkd s w k tb ds a = true ↔ ∃ j, j < wins w k ds ∧ a = plc s w k tb ds j := by
  rw [pkd_iff]
  constructor
  · rintro ⟨j, h, e⟩
    exact ⟨j, h, Int.ofNat.inj e⟩
  · rintro ⟨j, h, e⟩
    exact ⟨j, h, by rw [e]⟩
theorem off_lt (hd : Dig s ds) (ht : Tab s w k tb) {j : Nat} (hj : j < wins w k ds) : tb.getD (num s ((ds.drop j).take (w + k - 1))) 0 < w := by
  unfold wins at hj
  obtain ⟨h1, h2⟩ := win_ok (s := s) (n := w + k - 1) (j := j) (ds := ds) (by omega) hd
  exact tab_lt ht h1 h2
theorem plc_lt (hk : 1 ≤ k) (hd : Dig s ds) (ht : Tab s w k tb) {j : Nat} (hj : j < wins w k ds) : plc s w k tb ds j + k ≤ ds.length := by
  have h := off_lt hd ht hj
  unfold wins at hj
  unfold plc
  omega
theorem mem_pks (hk : 1 ≤ k) (hd : Dig s ds) (ht : Tab s w k tb) {a : Nat} : a ∈ pks s w k tb ds ↔ pkd s w k tb ds a = true := by
  unfold pks
  rw [List.mem_filter, List.mem_range]
  refine ⟨fun h => h.2, fun h => ⟨?_, h⟩⟩
  obtain ⟨j, hj, e⟩ := pkd_iffN.mp h
  have := plc_lt hk hd ht hj
  omega
theorem pks_asc : (pks s w k tb ds).Pairwise (· < ·) := List.Pairwise.filter _ List.pairwise_lt_range
theorem asc_eq {α : Type} (lt : α → α → Prop) (irr : ∀ a, ¬ lt a a) (tr : ∀ a b c, lt a b → lt b c → lt a c) : ∀ {l r : List α}, l.Pairwise lt → r.Pairwise lt → (∀ a, a ∈ l ↔ a ∈ r) → l = r
  | [], [], _, _, _ => rfl
  | [], b :: r, _, _, h => absurd ((h b).mpr List.mem_cons_self) List.not_mem_nil
  | a :: l, [], _, _, h => absurd ((h a).mp List.mem_cons_self) List.not_mem_nil
  | a :: l, b :: r, p, q, h => by
    obtain ⟨p1, p2⟩ := List.pairwise_cons.mp p
    obtain ⟨q1, q2⟩ := List.pairwise_cons.mp q
    have e : a = b := by
      rcases List.mem_cons.mp ((h a).mp List.mem_cons_self) with e | e
      · exact e
      · rcases List.mem_cons.mp ((h b).mpr List.mem_cons_self) with e2 | e2
        · exact e2.symm
        · exact absurd (tr _ _ _ (p1 b e2) (q1 a e)) (irr a)
    subst e
    have e2 : l = r := asc_eq lt irr tr p2 q2 fun c => by
      constructor
      · intro hc
        rcases List.mem_cons.mp ((h c).mp (List.mem_cons_of_mem _ hc)) with z | z
        · exact absurd (p1 c hc) (by rw [z]; exact irr a)
        · exact z
      · intro hc
        rcases List.mem_cons.mp ((h c).mpr (List.mem_cons_of_mem _ hc)) with z | z
        · exact absurd (q1 c hc) (by rw [z]; exact irr a)
        · exact z
    rw [e2]
theorem asc_eqN {l r : List Nat} (p : l.Pairwise (· < ·)) (q : r.Pairwise (· < ·)) (h : ∀ a, a ∈ l ↔ a ∈ r) : l = r := asc_eq _ (fun a => Nat.lt_irrefl a) (fun _ _ _ => Nat.lt_trans) p q h
theorem asc_eqI {l r : List Int} (p : l.Pairwise (· < ·)) (q : r.Pairwise (· < ·)) (h : ∀ a, a ∈ l ↔ a ∈ r) : l = r := asc_eq _ (fun a => Int.lt_irrefl a) (fun _ _ _ => Int.lt_trans) p q h
abbrev toI (l : List Nat) : List Int := l.map fun (n : Nat) => (n : Int)
theorem toI_asc {l : List Nat} (h : l.Pairwise (· < ·)) : (toI l).Pairwise (· < ·) := List.pairwise_map.mpr (h.imp fun z => Int.ofNat_lt.mpr z)
theorem mem_toI {l : List Nat} {z : Int} : z ∈ toI l ↔ ∃ n, n ∈ l ∧ z = (n : Nat) := by
  rw [List.mem_map]
  exact ⟨fun ⟨n, h, e⟩ => ⟨n, h, e.symm⟩, fun ⟨n, h, e⟩ => ⟨n, h, e.symm⟩⟩
theorem mem_toI_nat {l : List Nat} {n : Nat} : ((n : Nat) : Int) ∈ toI l ↔ n ∈ l := by
  rw [mem_toI]
  exact ⟨fun ⟨m, h, e⟩ => by rw [Int.ofNat.inj e]; exact h, fun h => ⟨n, h, rfl⟩⟩
theorem map_toI (l : List Nat) : (toI l).map D.int = l.map nat := by
  rw [List.map_map]
  rfl
theorem places_pks (hk : 1 ≤ k) (hd : Dig s ds) (ht : Tab s w k tb) {ns : List Int} (h : Places s w k tb ds ns) : ns = toI (pks s w k tb ds) := by
  refine asc_eqI h.1 (toI_asc pks_asc) fun z => ?_
  rw [h.2, mem_toI]
  constructor
  · rintro ⟨j, hj, e⟩
    exact ⟨_, (mem_pks hk hd ht).mpr (pkd_iffN.mpr ⟨j, hj, rfl⟩), e⟩
  · rintro ⟨n, hn, e⟩
    obtain ⟨j, hj, e2⟩ := pkd_iffN.mp ((mem_pks hk hd ht).mp hn)
    exact ⟨j, hj, by rw [e, e2]⟩
theorem pks_len : (pks s w k tb ds).length ≤ ds.length := by
  unfold pks
  refine Nat.le_trans (List.length_filter_le _ _) ?_
  rw [List.length_range]
  exact Nat.le_refl _
end
section
variable {K : PySem.W.Frag} {C : Addr} {S : Sta} {Kn : KE} {E : XK}
theorem rc_picksN {s w k : Nat} {tb ds : List Nat} (og : OkG s w k) (ht : Tab s w k tb) (hl : ds.length ≤ 1000) (hd : Dig s ds) (h : Kn (.val (.tup ((pks s w k tb ds).map nat))) S) : RcD K C (OnR (spPicksV C) E) [.val (.rul s w k tb), .val (txd ds)] S Kn :=
  rc_picks og ht.1 hl hd fun ns hP => by
    rw [places_pks og.2.2.2.1 hd ht hP, map_toI]
    exact h
theorem rc_placesN {s w k : Nat} {tb ds : List Nat} (os : OkS s w k) (ht : Tab s w k tb) (hl : ds.length ≤ 1000) (hd : Dig s ds) (h : Kn (.val (.lst ((pks s w k tb ds).map nat))) S) : RcD K C (OnR spPlaces E) [.val (drawn s w k tb), .val (txd ds)] S Kn :=
  rc_places os ht.1 hl hd fun ns hP => by
    rw [places_pks os.2.2.2.1 hd ht hP, map_toI]
    exact h
theorem in_nats {i : Nat} {l : List Nat} {b : Bool} : (if b then !decide ((i : Int) ∈ toI l) else decide ((i : Int) ∈ toI l)) = (if b then !decide (i ∈ l) else decide (i ∈ l)) := by
  have e : decide ((i : Int) ∈ toI l) = decide (i ∈ l) := by
    by_cases h : i ∈ l
    · rw [decide_eq_true h, decide_eq_true (mem_toI_nat.mpr h)]
    · rw [decide_eq_false h, decide_eq_false fun z => h (mem_toI_nat.mp z)]
  rw [e]
theorem r2_inUtN {i : Nat} {l : List Nat} (k : Kn (.val (.bl (decide (i ∈ l)))) S) : R2D K C (uIn K) (.val (nat i)) (.val (.tup (l.map nat))) S Kn := by
  rw [← map_toI]
  refine r2_l (r2_inT ?_)
  rw [in_nats]
  exact k
theorem r2_niUtN {i : Nat} {l : List Nat} (k : Kn (.val (.bl (!decide (i ∈ l)))) S) : R2D K C (uNotIn K) (.val (nat i)) (.val (.tup (l.map nat))) S Kn := by
  rw [← map_toI]
  refine r2_l (r2_inT ?_)
  rw [in_nats]
  exact k
theorem r2_inUlN {i : Nat} {l : List Nat} (k : Kn (.val (.bl (decide (i ∈ l)))) S) : R2D K C (uIn K) (.val (nat i)) (.val (.lst (l.map nat))) S Kn := by
  rw [← map_toI]
  refine r2_l (r2_inLi ?_)
  rw [in_nats]
  exact k
theorem r2_niUlN {i : Nat} {l : List Nat} (k : Kn (.val (.bl (!decide (i ∈ l)))) S) : R2D K C (uNotIn K) (.val (nat i)) (.val (.lst (l.map nat))) S Kn := by
  rw [← map_toI]
  refine r2_l (r2_inLi ?_)
  rw [in_nats]
  exact k
end
/-! ### one letter is another -/
def chg (ds : List Nat) (a c : Nat) : List Nat := ds.take a ++ [c] ++ ds.drop (a + 1)
theorem chg_dig {s a c : Nat} {ds : List Nat} (hd : Dig s ds) (hc : c < s) : Dig s (chg ds a c) := fun d h => by
  rcases List.mem_append.mp h with h | h
  · rcases List.mem_append.mp h with h | h
    · exact hd d (List.mem_of_mem_take h)
    · rw [List.mem_singleton.mp h]
      exact hc
  · exact hd d (List.mem_of_mem_drop h)
theorem chg_len {ds : List Nat} {a c : Nat} (h : a < ds.length) : (chg ds a c).length = ds.length := by
  unfold chg
  rw [List.length_append, List.length_append, List.length_take, List.length_drop]
  show min a ds.length + 1 + _ = _
  omega
theorem chg_set {ds : List Nat} {a c : Nat} (h : a < ds.length) : chg ds a c = ds.set a c := by
  unfold chg
  rw [List.set_eq_take_append_cons_drop, if_pos h, List.append_assoc]
  rfl
theorem chg_get {ds : List Nat} {a c i : Nat} (h : a < ds.length) : (chg ds a c)[i]? = if a = i then some c else ds[i]? := by
  rw [chg_set h, List.getElem?_set]
  by_cases e : a = i
  · subst e
    rw [if_pos rfl, if_pos rfl, if_pos h]
  · rw [if_neg e, if_neg e]
theorem chg_back {ds : List Nat} {a c d : Nat} (h : ds[a]? = some d) : chg (chg ds a c) a d = ds := by
  have l := (List.getElem?_eq_some_iff.mp h).1
  refine List.ext_getElem? fun i => ?_
  rw [chg_get (by rw [chg_len l]; exact l), chg_get l]
  by_cases e : a = i
  · subst e
    rw [if_pos rfl, h]
  · rw [if_neg e, if_neg e]
/-- what is in the one list alone -/
def less (l r : List Nat) : List Nat := l.filter fun z => !decide (z ∈ r)
def gone (s w k : Nat) (tb ds : List Nat) (a c : Nat) : List Nat := less (pks s w k tb ds) (pks s w k tb (chg ds a c))
def come (s w k : Nat) (tb ds : List Nat) (a c : Nat) : List Nat := less (pks s w k tb (chg ds a c)) (pks s w k tb ds)
def mv (s w k : Nat) (tb ds : List Nat) (a c : Nat) : Nat := (gone s w k tb ds a c).length + (come s w k tb ds a c).length
theorem mem_less {l r : List Nat} {a : Nat} : a ∈ less l r ↔ a ∈ l ∧ a ∉ r := by
  unfold less
  rw [List.mem_filter]
  constructor
  · rintro ⟨h1, h2⟩
    exact ⟨h1, fun h => by rw [decide_eq_true h] at h2; cases h2⟩
  · rintro ⟨h1, h2⟩
    exact ⟨h1, by rw [decide_eq_false h2]; rfl⟩
theorem less_asc {l r : List Nat} (h : l.Pairwise (· < ·)) : (less l r).Pairwise (· < ·) := List.Pairwise.filter _ h
end DL

set_option Elab.async false
set_option linter.all false
set_option maxRecDepth 100000
set_option maxHeartbeats 1200000
namespace DL
open PySem PySem.Spec PyProof.Rows L2 WP
section
variable {s w k : Nat} {tb ds : List Nat}
/-! ### what is picked hangs on few letters -/
theorem pkd_in {b m p : Nat} (hw : 1 ≤ w) (hk : 1 ≤ k) (ht : Tab s w k tb) (hd : Dig s ds) (h1 : b + (w - 1) ≤ p) (h2 : p + w + k - 1 ≤ b + m) (h3 : b + m ≤ ds.length) : pkd s w k tb ((ds.drop b).take m) (p - b) = pkd s w k tb ds p := by
  have e1 := pkd_amid (a := p - (w - 1)) hw hk ht hd (by omega)
  have d2 : Dig s ((ds.drop b).take m) := fun c hc => hd c (List.mem_of_mem_drop (List.mem_of_mem_take hc))
  have l2 : ((ds.drop b).take m).length = m := by rw [List.length_take, List.length_drop]; omega
  have e2 := pkd_amid (a := p - b - (w - 1)) (ds := (ds.drop b).take m) hw hk ht d2 (by rw [l2]; omega)
  rw [win_amid (by omega), show b + (p - b - (w - 1)) = p - (w - 1) by omega, e1] at e2
  rw [show p - (w - 1) + w - 1 = p by omega, show p - b - (w - 1) + w - 1 = p - b by omega] at e2
  exact e2.symm
theorem drop_take_get {l : List Nat} {j n i : Nat} : ((l.drop j).take n)[i]? = if i < n then l[j + i]? else none := by
  rw [List.getElem?_take]
  by_cases h : i < n
  · rw [if_pos h, if_pos h, List.getElem?_drop]
  · rw [if_neg h, if_neg h]
theorem win_chg {a c j n : Nat} (ha : a < ds.length) (h : a < j ∨ j + n ≤ a) : ((chg ds a c).drop j).take n = (ds.drop j).take n := by
  refine List.ext_getElem? fun i => ?_
  rw [drop_take_get, drop_take_get]
  by_cases hi : i < n
  · rw [if_pos hi, if_pos hi, chg_get ha, if_neg (by omega)]
  · rw [if_neg hi, if_neg hi]
theorem pkd_far1 {a c p : Nat} (hd : Dig s ds) (ht : Tab s w k tb) (ha : a < ds.length) (h : a + w ≤ p ∨ p + w + k - 1 ≤ a) (hp : pkd s w k tb ds p = true) : pkd s w k tb (chg ds a c) p = true := by
  obtain ⟨j, hj, e⟩ := pkd_iffN.mp hp
  have o := off_lt hd ht hj
  have e2 : plc s w k tb ds j = j + tb.getD (num s ((ds.drop j).take (w + k - 1))) 0 := rfl
  refine pkd_iffN.mpr ⟨j, by unfold wins at hj ⊢; rw [chg_len ha]; exact hj, ?_⟩
  unfold plc
  rw [win_chg ha (by omega), ← e2]
  exact e
theorem pkd_far {a c p : Nat} (hd : Dig s ds) (ht : Tab s w k tb) (ha : a < ds.length) (hc : c < s) (h : a + w ≤ p ∨ p + w + k - 1 ≤ a) : pkd s w k tb (chg ds a c) p = pkd s w k tb ds p := by
  rw [Bool.eq_iff_iff]
  refine ⟨fun z => ?_, fun z => pkd_far1 hd ht ha h z⟩
  have hx : ds[a]? = some ds[a] := List.getElem?_eq_getElem ha
  have := pkd_far1 (c := ds[a]) (chg_dig (a := a) hd hc) ht (by rw [chg_len ha]; exact ha) h z
  rw [chg_back hx] at this
  exact this
theorem gone_near {a c p : Nat} (hk : 1 ≤ k) (hd : Dig s ds) (ht : Tab s w k tb) (ha : a < ds.length) (hc : c < s) (h : p ∈ gone s w k tb ds a c) : p < a + w ∧ a < p + w + k - 1 := by
  obtain ⟨h1, h2⟩ := mem_less.mp h
  rw [mem_pks hk hd ht] at h1
  rw [mem_pks hk (chg_dig hd hc) ht] at h2
  refine ⟨Nat.lt_of_not_le fun z => h2 ?_, Nat.lt_of_not_le fun z => h2 ?_⟩
  · rw [pkd_far hd ht ha hc (.inl z)]
    exact h1
  · rw [pkd_far hd ht ha hc (.inr z)]
    exact h1
theorem come_near {a c p : Nat} (hk : 1 ≤ k) (hd : Dig s ds) (ht : Tab s w k tb) (ha : a < ds.length) (hc : c < s) (h : p ∈ come s w k tb ds a c) : p < a + w ∧ a < p + w + k - 1 := by
  obtain ⟨h1, h2⟩ := mem_less.mp h
  rw [mem_pks hk hd ht] at h2
  rw [mem_pks hk (chg_dig hd hc) ht] at h1
  refine ⟨Nat.lt_of_not_le fun z => h2 ?_, Nat.lt_of_not_le fun z => h2 ?_⟩
  · rw [← pkd_far hd ht ha hc (.inl z)]
    exact h1
  · rw [← pkd_far hd ht ha hc (.inr z)]
    exact h1
/-! ### as many places are moved in a longer text -/
theorem chg_in {a c b m : Nat} (h1 : b ≤ a) (h2 : a < b + m) (h3 : b + m ≤ ds.length) : chg ((ds.drop b).take m) (a - b) c = ((chg ds a c).drop b).take m := by
  have l2 : ((ds.drop b).take m).length = m := by rw [List.length_take, List.length_drop]; omega
  refine List.ext_getElem? fun i => ?_
  rw [chg_get (by omega), drop_take_get, drop_take_get, chg_get (by omega)]
  by_cases e : a - b = i
  · rw [if_pos e, if_pos (by omega), if_pos (by omega)]
  · rw [if_neg e]
    by_cases hi : i < m
    · rw [if_pos hi, if_pos hi, if_neg (by omega)]
    · rw [if_neg hi, if_neg hi]
theorem near_shift {l r : List Nat} {b : Nat} (hl : l.Pairwise (· < ·)) (hr : r.Pairwise (· < ·)) (h1 : ∀ p ∈ l, b ≤ p) (h : ∀ q, q ∈ r ↔ q + b ∈ l) : l = r.map (· + b) := by
  refine asc_eqN hl (List.pairwise_map.mpr (hr.imp fun z => Nat.add_lt_add_right z b)) fun p => ?_
  rw [List.mem_map]
  constructor
  · intro hp
    have := h1 p hp
    exact ⟨p - b, (h _).mpr (by rw [Nat.sub_add_cancel this]; exact hp), Nat.sub_add_cancel this⟩
  · rintro ⟨q, hq, rfl⟩
    exact (h q).mp hq
theorem in_both {a c b m : Nat} (hw : 1 ≤ w) (hk : 1 ≤ k) (ht : Tab s w k tb) (hd : Dig s ds) (hc : c < s) (h1 : b + (2 * w + k - 3) ≤ a) (h2 : a + (2 * w + k - 3) < b + m) (h3 : b + m ≤ ds.length) {p : Nat} (n1 : p < a + w) (n2 : a < p + w + k - 1) :
    pkd s w k tb ((ds.drop b).take m) (p - b) = pkd s w k tb ds p ∧ pkd s w k tb (chg ((ds.drop b).take m) (a - b) c) (p - b) = pkd s w k tb (chg ds a c) p := by
  refine ⟨pkd_in hw hk ht hd (by omega) (by omega) h3, ?_⟩
  rw [chg_in (by omega) (by omega) h3]
  exact pkd_in hw hk ht (chg_dig hd hc) (by omega) (by omega) (by rw [chg_len (by omega)]; exact h3)
theorem gone_in {a c b m : Nat} (hw : 1 ≤ w) (hk : 1 ≤ k) (ht : Tab s w k tb) (hd : Dig s ds) (hc : c < s) (h1 : b + (2 * w + k - 3) ≤ a) (h2 : a + (2 * w + k - 3) < b + m) (h3 : b + m ≤ ds.length) :
    gone s w k tb ds a c = (gone s w k tb ((ds.drop b).take m) (a - b) c).map (· + b) := by
  have l2 : ((ds.drop b).take m).length = m := by rw [List.length_take, List.length_drop]; omega
  have d2 : Dig s ((ds.drop b).take m) := fun c hc => hd c (List.mem_of_mem_drop (List.mem_of_mem_take hc))
  refine near_shift (less_asc pks_asc) (less_asc pks_asc) (fun p hp => ?_) fun q => ?_
  · have := gone_near hk hd ht (by omega) hc hp
    omega
  · have key : ∀ p, p < a + w → a < p + w + k - 1 → b ≤ p → (p - b ∈ gone s w k tb ((ds.drop b).take m) (a - b) c ↔ p ∈ gone s w k tb ds a c) := fun p n1 n2 hb => by
      obtain ⟨e1, e2⟩ := in_both hw hk ht hd hc h1 h2 h3 n1 n2
      unfold gone
      rw [mem_less, mem_less, mem_pks hk d2 ht, mem_pks hk hd ht, mem_pks hk (chg_dig d2 hc) ht, mem_pks hk (chg_dig hd hc) ht, e1, e2]
    constructor
    · intro hq
      have n := gone_near hk d2 ht (by omega) hc hq
      have := (key (q + b) (by omega) (by omega) (by omega))
      rw [Nat.add_sub_cancel] at this
      exact this.mp hq
    · intro hq
      have n := gone_near hk hd ht (by omega) hc hq
      have := (key (q + b) (by omega) (by omega) (by omega))
      rw [Nat.add_sub_cancel] at this
      exact this.mpr hq
theorem come_in {a c b m : Nat} (hw : 1 ≤ w) (hk : 1 ≤ k) (ht : Tab s w k tb) (hd : Dig s ds) (hc : c < s) (h1 : b + (2 * w + k - 3) ≤ a) (h2 : a + (2 * w + k - 3) < b + m) (h3 : b + m ≤ ds.length) :
    come s w k tb ds a c = (come s w k tb ((ds.drop b).take m) (a - b) c).map (· + b) := by
  have l2 : ((ds.drop b).take m).length = m := by rw [List.length_take, List.length_drop]; omega
  have d2 : Dig s ((ds.drop b).take m) := fun c hc => hd c (List.mem_of_mem_drop (List.mem_of_mem_take hc))
  refine near_shift (less_asc pks_asc) (less_asc pks_asc) (fun p hp => ?_) fun q => ?_
  · have := come_near hk hd ht (by omega) hc hp
    omega
  · have key : ∀ p, p < a + w → a < p + w + k - 1 → b ≤ p → (p - b ∈ come s w k tb ((ds.drop b).take m) (a - b) c ↔ p ∈ come s w k tb ds a c) := fun p n1 n2 hb => by
      obtain ⟨e1, e2⟩ := in_both hw hk ht hd hc h1 h2 h3 n1 n2
      unfold come
      rw [mem_less, mem_less, mem_pks hk d2 ht, mem_pks hk hd ht, mem_pks hk (chg_dig d2 hc) ht, mem_pks hk (chg_dig hd hc) ht, e1, e2]
    constructor
    · intro hq
      have n := come_near hk d2 ht (by omega) hc hq
      have := (key (q + b) (by omega) (by omega) (by omega))
      rw [Nat.add_sub_cancel] at this
      exact this.mp hq
    · intro hq
      have n := come_near hk hd ht (by omega) hc hq
      have := (key (q + b) (by omega) (by omega) (by omega))
      rw [Nat.add_sub_cancel] at this
      exact this.mpr hq
theorem mv_in {a c b m : Nat} (hw : 1 ≤ w) (hk : 1 ≤ k) (ht : Tab s w k tb) (hd : Dig s ds) (hc : c < s) (h1 : b + (2 * w + k - 3) ≤ a) (h2 : a + (2 * w + k - 3) < b + m) (h3 : b + m ≤ ds.length) :
    mv s w k tb ds a c = mv s w k tb ((ds.drop b).take m) (a - b) c := by
  unfold mv
  rw [gone_in hw hk ht hd hc h1 h2 h3, come_in hw hk ht hd hc h1 h2 h3, List.length_map, List.length_map]
/-- the greatest number of moved places -/
def Utmost (s w k : Nat) (tb : List Nat) (m : Nat) : Prop := (∃ t c, t.length = 2 * (2 * w + k - 3) + 1 ∧ Dig s t ∧ c < s ∧ mv s w k tb t (2 * w + k - 3) c = m) ∧ ∀ t c, t.length = 2 * (2 * w + k - 3) + 1 → Dig s t → c < s → mv s w k tb t (2 * w + k - 3) c ≤ m
theorem Utmost.one {m n : Nat} (h : Utmost s w k tb m) (g : Utmost s w k tb n) : m = n := by
  obtain ⟨⟨t, c, h1, h2, h3, h4⟩, h5⟩ := h
  obtain ⟨⟨u, d, g1, g2, g3, g4⟩, g5⟩ := g
  have a := g5 t c h1 h2 h3
  have b := h5 u d g1 g2 g3
  omega
theorem mv_most {a c m : Nat} (hw : 1 ≤ w) (hk : 1 ≤ k) (ht : Tab s w k tb) (hd : Dig s ds) (hc : c < s) (h1 : 2 * w + k - 3 ≤ a) (h2 : a + (2 * w + k - 3) < ds.length) (h : Utmost s w k tb m) : mv s w k tb ds a c ≤ m := by
  rw [mv_in (b := a - (2 * w + k - 3)) (m := 2 * (2 * w + k - 3) + 1) hw hk ht hd hc (by omega) (by omega) (by omega)]
  have e : a - (a - (2 * w + k - 3)) = 2 * w + k - 3 := by omega
  rw [e]
  exact h.2 _ c (by rw [List.length_take, List.length_drop]; omega) (fun x hx => hd x (List.mem_of_mem_drop (List.mem_of_mem_take hx))) hc
end
/-! ### more readings -/
section
variable {K : PySem.W.Frag} {C : Addr} {S : Sta} {Kn : KE} {E : XK}
theorem signs_tx (ds : List Nat) : signs (tx ds) = ds.map fun d => txd [d] := by
  unfold signs
  show (cod ds).map _ = _
  unfold cod
  rw [List.map_map]
  rfl
theorem rs_abc {s : Nat} (hs : s = 2 ∨ s = 3 ∨ s = 4) (k : Kn (.val (txd (List.range s))) S) : RsD K C (uSl K) (.val (.str "abcd")) none (some (s : Int)) S Kn := by
  refine rs_Us (by decide) ?_
  rw [abc_cut s hs]
  exact k
theorem rc_textsI {s n : Nat} {z : Int} (e : z = (n : Nat)) (hs : s = 2 ∨ s = 3 ∨ s = 4) (hn : n ≤ 100) (hl : s ^ n ≤ 100000) (h : Kn (.val (.lst ((allT s n).map txd))) S) : RcD K C (OnR spTexts E) [.val (nat s), .val (.int z)] S Kn := by
  rw [e]
  exact rc_texts hs hn hl h
def okM (i : Int) : Bool := decide (-(2 ^ 64) < i) && decide (i < 2 ^ 64)
theorem r2_mulL {i j : Int} (h : okM i = true) (k : Kn (.val (.int (i * j))) S) : R2D K C (uMul K) (.val (.int i)) (.val (.int j)) S Kn := by
  unfold okM at h
  rw [Bool.and_eq_true, decide_eq_true_iff, decide_eq_true_iff] at h
  exact r2_mulI (.inl h) k
theorem r2_mulR {i j : Int} (h : okM j = true) (k : Kn (.val (.int (i * j))) S) : R2D K C (uMul K) (.val (.int i)) (.val (.int j)) S Kn := by
  unfold okM at h
  rw [Bool.and_eq_true, decide_eq_true_iff, decide_eq_true_iff] at h
  exact r2_mulI (.inr h) k
theorem rd_asgT2 {m i j : Nat} {te : TE} {E : Ed} (h : RdE K C te S fun r S1 => ∃ a b, r = .val (.tup [a, b]) ∧ E.nx ((S1.up i (.val a)).up j (.val b))) : RdS K C m (tAsg te (gTup K 2 (gCons (gName i) (gCons (gName j) gNil)))) S E := by
  intro Z ps σ Hf H D ok qn qr qb qc
  refine h Z ps σ Hf H _ ok fun r S1 ps1 Hf1 H1 v ⟨a, b, er, k1⟩ e1 p1 ok1 av => ?_
  subst er
  exact rg_tup2 (Kn := E.nx) k1 Z ps1 σ Hf1 H1 _ v ok1 av fun S' σ' k2 _ _ ok2 => qn S' ps1 σ' Hf1 H1 k2 e1 (Kp.of p1) ok2
theorem rg_tup3 {i j l : Nat} {a b c : D} {S : Sta} {Kn : Sta → Prop} (k : Kn (((S.up i (.val a)).up j (.val b)).up l (.val c))) : RdG K C [i, j, l] (gTup K 3 (gCons (gName i) (gCons (gName j) (gCons (gName l) gNil)))) (.val (.tup [a, b, c])) S Kn := by
  intro Z ps σ Hf H Q v ok av q
  obtain ⟨p, vs, rfl, hp, x, us, rfl, ax, y, us2, rfl, ay, z, us3, rfl, az, e⟩ := av
  have e : us3 = [] := e
  subst e
  refine ⟨p, [x, y, z], rfl, .inl (.inl (ok.sub _ _ hp)), rfl, x, [y, z], rfl, y, [z], rfl, z, [], rfl, rfl, ?_⟩
  refine q _ _ k (by rw [List.length_set, List.length_set, List.length_set]) (fun t ht => ?_) (((ok.set (r := .val a) ax).set (S := ⟨S.g.set i (.val a), S.o⟩) (r := .val b) ay).set (S := ⟨(S.g.set i (.val a)).set j (.val b), S.o⟩) (r := .val c) az)
  rw [List.getElem?_set_ne (fun e => ht (by rw [← e]; simp)), List.getElem?_set_ne (fun e => ht (by rw [← e]; simp)), List.getElem?_set_ne (fun e => ht (by rw [← e]; simp))]
theorem rd_asgT3 {m i j l : Nat} {te : TE} {E : Ed} (h : RdE K C te S fun r S1 => ∃ a b c, r = .val (.tup [a, b, c]) ∧ E.nx (((S1.up i (.val a)).up j (.val b)).up l (.val c))) : RdS K C m (tAsg te (gTup K 3 (gCons (gName i) (gCons (gName j) (gCons (gName l) gNil))))) S E := by
  intro Z ps σ Hf H D ok qn qr qb qc
  refine h Z ps σ Hf H _ ok fun r S1 ps1 Hf1 H1 v ⟨a, b, c, er, k1⟩ e1 p1 ok1 av => ?_
  subst er
  exact rg_tup3 (Kn := E.nx) k1 Z ps1 σ Hf1 H1 _ v ok1 av fun S' σ' k2 _ _ ok2 => qn S' ps1 σ' Hf1 H1 k2 e1 (Kp.of p1) ok2
theorem range_get {n i c : Nat} (h : (List.range n)[i]? = some c) : c = i ∧ i < n := by
  obtain ⟨l, e⟩ := List.getElem?_eq_some_iff.mp h
  rw [List.length_range] at l
  rw [List.getElem_range] at e
  exact ⟨e.symm, l⟩
/-- for x in xs, over things of one sort -/
theorem rd_forL {α : Type} {m j : Nat} {wi : TI} {tb : TS} {E : Ed} (xs : List α) (emb : α → D) (I : Nat → Sta → Prop)
    (h : RdI K C wi S fun ds S1 => ds = xs.map emb ∧ m ≤ S1.o.length ∧ I 0 S1 ∧ (∀ i x S2, xs[i]? = some x → S2.o.length = S1.o.length → I i S2 →
      RdS K C S1.o.length tb (S2.up j (.val (emb x))) { nx := WkTo S1.o.length (I (i + 1)), ct := WkTo S1.o.length (I (i + 1)), bk := E.nx, rt := E.rt }) ∧ ∀ S2, S2.o.length = S1.o.length → I xs.length S2 → E.nx S2) : RdS K C m (tFor wi (gName j) tb) S E := by
  refine rd_for (js := [j]) I ?_
  refine fun Z ps σ Hf H R ok q => h Z ps σ Hf H R ok fun J ds S1 ps1 Hf1 H1 ⟨e1, hm, k0, ks, kd⟩ => q J ds S1 ps1 Hf1 H1 ⟨hm, k0, fun i d S2 hd l2 i2 => ?_, ?_⟩
  · rw [e1, List.getElem?_map] at hd
    cases hx : xs[i]? with
    | none =>
      rw [hx] at hd
      cases hd
    | some x =>
      rw [hx] at hd
      cases hd
      exact rg_name (ks i x S2 hx l2 i2)
  · rw [e1, List.length_map]
    exact kd
end
end DL

set_option Elab.async false
set_option linter.all false
set_option maxRecDepth 100000
set_option maxHeartbeats 1200000
namespace WP
open PySem L2
def top (i : Nat) : Stmt := PySem.Challenge.pw_windowpicks_k44_edits_known_by_hand.main.body.getD i (.Pass ⟨0, 0, 0, 0⟩)
end WP
namespace WP
open PySem L2
abbrev s_is_between : Stmt := top 10
abbrev s_is_integer : Stmt := top 9
abbrev s_is_sequence : Stmt := top 11
abbrev s_count_of : Stmt := top 14
abbrev s_number_of : Stmt := top 16
abbrev s_check_letters : Stmt := top 17
abbrev s_check_sizes : Stmt := top 26
abbrev s_is_table : Stmt := top 27
section
variable {K : PySem.W.Frag} {mg : Str → Option Value} {base : Heap} {w : World} {P : Program}
/-! ### is_between, of an int within the bounds -/
theorem scInteger : FnScope ["value"] ["value"] (defScope s_is_integer) := ⟨rfl, rfl, rfl, by decide +kernel, rfl, by decide +kernel, by decide +kernel⟩
/-- is_integer, of an int -/
def spInteger : Sp := fun vs H Q _ => ∃ i : Int, vs = [.int i] ∧ Q (.bl true) H
theorem ok_integer {f : Addr} {fd : FuncData} (F : Fun K "is_integer" "is_integer" s_is_integer f fd) (mis : mg "isinstance" = none) (mi : mg "int" = none) (mb : mg "bool" = none) : FnOk P w K mg base CX0 1 f fd ["value"] spInteger := by
  refine F.ok scInteger (fun vs H Q E h => ?_) (fun cdv A outer s H vs Q E hr h => ?_)
  · obtain ⟨i, rfl, _⟩ := h
    rfl
  · obtain ⟨i, rfl, q⟩ := h
    refine ⟨_, pss_one (ps_ret (pe_and (pe_callB call_isi (by rfl) mis (by decide +kernel) (pa_cons (pv 0) (pa_cons (pe_bltn (v := .ty "int") (by rfl) mi (by decide +kernel) rfl) pa_nil)))
      (pe_one (pe_not (pe_callB call_isi (by rfl) mis (by decide +kernel) (pa_cons (pv 0) (pa_cons (pe_bltn (v := .ty "bool") (by rfl) mb (by decide +kernel) rfl) pa_nil))))))), ?_⟩
    refine ⟨_, rfl, .int i, .ty "int", .type "int", .type "int", true, rfl, .ty _, is_int i, kit_ty (by decide +kernel), true, rfl, iteT ?_⟩
    exact ⟨_, rfl, .int i, .ty "bool", .type "int", .type "bool", false, rfl, .ty _, is_int i, kit_ty (by decide +kernel), false, rfl, q⟩
theorem scBetween : FnScope ["value", "low", "high"] ["value", "low", "high"] (defScope s_is_between) := ⟨rfl, rfl, rfl, by decide +kernel, rfl, by decide +kernel, by decide +kernel⟩
theorem ok_between {f fI : Addr} {fd fdI : FuncData} (F : Fun K "is_between" "is_between" s_is_between f fd)
    (GI : FnOk P w K mg base CX0 1 fI fdI ["value"] spInteger) (kI : PySem.W.keepIn K (.ref fI) = true) (bI : Binds K fdI ["value"] []) (gI : mg "is_integer" = some (.ref fI)) : FnOk P w K mg base CX0 2 f fd ["value", "low", "high"] spBetween := by
  refine F.ok scBetween (fun vs H Q E h => ?_) (fun cdv A outer s H vs Q E hr h => ?_)
  · obtain ⟨i, lo, hi, rfl, _⟩ := h
    rfl
  · obtain ⟨i, lo, hi, rfl, h1, h2, q⟩ := h
    refine ⟨_, pss_one (ps_ret (pe_and (pe_call GI hr (by rfl) gI kI bI .nil pass0 (pa_cons (pv 0) pa_nil)) (pe_one (pe_chain op_le op_le (pv 1) (pv 0) (pv 2))))), ?_⟩
    refine ⟨_, rfl, i, rfl, true, rfl, iteT ?_⟩
    refine ⟨_, rfl, _, rfl, _, _, rfl, rfl, true, by show V.bl (decide (lo ≤ i)) = _; rw [decide_eq_true h1], iteT ?_⟩
    refine ⟨_, rfl, _, _, rfl, rfl, ?_⟩
    show Q (.bl (decide (i ≤ hi))) H
    rw [decide_eq_true h2]
    exact q
theorem scSeq : FnScope ["value"] ["value"] (defScope s_is_sequence) := ⟨rfl, rfl, rfl, by decide +kernel, rfl, by decide +kernel, by decide +kernel⟩
theorem ok_seq {f : Addr} {fd : FuncData} (F : Fun K "is_sequence" "is_sequence" s_is_sequence f fd) (mis : mg "isinstance" = none) (ml : mg "list" = none) (mt : mg "tuple" = none) : FnOk P w K mg base CX0 1 f fd ["value"] (spSeq K) := by
  refine F.ok scSeq (fun vs H Q E h => ?_) (fun cdv A outer s H vs Q E hr h => ?_)
  · obtain ⟨p, xs, rfl, _⟩ := h
    rfl
  · obtain ⟨p, xs, rfl, hp, q⟩ := h
    refine ⟨_, pss_one (ps_ret (pe_callB call_isiT (by rfl) mis (by decide +kernel) (pa_cons (pv 0) (pa_cons (pe_tup (pa_cons (pe_bltn (v := .ty "list") (by rfl) ml (by decide +kernel) rfl) (pa_cons (pe_bltn (v := .ty "tuple") (by rfl) mt (by decide +kernel) rfl) pa_nil))) pa_nil)))), ?_⟩
    refine ⟨_, rfl, by show 2 ≤ sizeLine; decide, fun t nt => ?_⟩
    exact ⟨.ref p, t, [.ty "list", .ty "tuple"], .type "list", [.type "list", .type "tuple"], true, rfl, upd_same, .cons (.ty _) (.cons (.ty _) .nil), .base (.lst (same_upd nt _ _ hp)), kitAny_cons (b := true) (kit_ty (by decide +kernel)) (fun z => nomatch z) (fun _ => rfl), q _ (same_upd nt)⟩
/-! ### count_of -/
theorem scCount : FnScope ["letters", "length", "count", "_"] ["letters", "length"] (defScope s_count_of) := ⟨rfl, rfl, rfl, by decide +kernel, rfl, by decide +kernel, by decide +kernel⟩
theorem ok_count {f : Addr} {fd : FuncData} (F : Fun K "count_of" "count_of" s_count_of f fd) (mr : mg "range" = none) : FnOk P w K mg base CX0 1 f fd ["letters", "length"] spPower := by
  refine F.ok scCount (fun vs H Q E h => ?_) (fun cdv A outer s H vs Q E hr h => ?_)
  · obtain ⟨b, n, rfl, _⟩ := h
    rfl
  · obtain ⟨b, n, rfl, hb, hn, q⟩ := h
    refine ⟨_, pss_cons (ps_set (i := 2) scCount.nd rfl (.inl rfl) pe_int)
      (pss_cons (ps_for PassesOwn.never rfl (pi_range1 (by rfl) mr (pa_cons (pv 1) pa_nil)) (pg_name (i := 3) scCount.nd rfl (.inl rfl))
        (pss_one (ps_set (i := 2) scCount.nd rfl (.inl rfl) (pe_op op_mul (pv 2) (pv 0)))))
      (pss_one (ps_ret (pv 2)))), ?_⟩
    refine ⟨_, rfl, n, rfl, by omega, by omega, for_range (lo := 0) (n := (n : Int).toNat) (fun i σ H' => ∃ y, σ = [some (.int b), some (.int n), some (.int ((b ^ i : Nat) : Int)), y] ∧ H' = H) ⟨none, rfl, rfl⟩ ?_ ?_⟩
    · rintro i σ H' hi ⟨y, rfl, rfl⟩
      refine ⟨_, rfl, _, rfl, _, _, rfl, rfl, .inr ⟨by omega, by omega⟩, some (.int (0 + i)), ?_, rfl⟩
      rw [Nat.pow_succ, Int.natCast_mul]
      rfl
    · rintro σ H' ⟨y, rfl, rfl⟩
      refine ⟨_, rfl, ?_⟩
      rw [Int.toNat_natCast]
      exact q
/-! ### number_of -/
theorem scNumber : FnScope ["letters", "text", "number", "letter"] ["letters", "text"] (defScope s_number_of) := ⟨rfl, rfl, rfl, by decide +kernel, rfl, by decide +kernel, by decide +kernel⟩
theorem ok_number {f : Addr} {fd : FuncData} (F : Fun K "number_of" "number_of" s_number_of f fd) (gA : ∃ u, mg "ALPHABET" = some u ∧ RelV (.str "abcd") u) : FnOk P w K mg base CX0 1 f fd ["letters", "text"] spNumber := by
  refine F.ok scNumber (fun vs H Q E h => ?_) (fun cdv A outer s₀ H vs Q E hr h => ?_)
  · obtain ⟨s, ds, rfl, _⟩ := h
    rfl
  · obtain ⟨s, ds, rfl, hs, hd, hl, q⟩ := h
    refine ⟨_, pss_cons (ps_set (i := 2) scNumber.nd rfl (.inl rfl) pe_int)
      (pss_cons (ps_for PassesOwn.never rfl (pi_str (pv 1)) (pg_name (i := 3) scNumber.nd rfl (.inl rfl))
        (pss_one (ps_set (i := 2) scNumber.nd rfl (.inl rfl) (pe_op op_add (pe_op op_mul (pv 2) (pv 0)) (pe_m1 PySem.F.slot_str_find PySem.F.type_str_find mt_find (C8.pe_gc (by rfl) gA) (pv 3))))))
      (pss_one (ps_ret (pv 2)))), ?_⟩
    refine ⟨_, rfl, tx ds, rfl, for_it walk_str (fun i σ H' => ∃ y, σ = [some (.int s), some (tv ds), some (.int ((num s (ds.take i) : Nat) : Int)), y] ∧ H' = H) ⟨none, rfl, rfl⟩ (fun _ _ _ _ _ => trivial) ?_ ?_⟩
    · rintro i x σ H1 H1' hi ⟨y, rfl, rfl⟩ ⟨rfl, c, hc, rfl⟩
      obtain ⟨d, hdi, rfl⟩ := cps_at hc
      have hd4 : d < 4 := hd d (List.mem_of_getElem? hdi)
      refine ⟨_, rfl, _, rfl, _, _, rfl, rfl, .inr ⟨by omega, by omega⟩, ⟨_, rfl⟩, _, rfl, _, _, rfl, rfl, _, _, rfl, rfl, some (.str ⟨#[97 + d]⟩), ?_, rfl⟩
      rw [find_abc d hd4, List.take_add_one, hdi]
      show _ = [_, _, some (V.int ((num s (ds.take i ++ [d]) : Nat) : Int)), _]
      rw [num_snoc, Int.natCast_add, Int.natCast_mul]
      rfl
    · rintro σ H1 ⟨y, rfl, rfl⟩
      refine ⟨_, rfl, ?_⟩
      rw [cps_size, List.take_length]
      exact q
/-! ### check_letters, of a good text -/
theorem scCheck : FnScope ["letters", "text", "at", "letter"] ["letters", "text"] (defScope s_check_letters) := ⟨rfl, rfl, rfl, by decide +kernel, rfl, by decide +kernel, by decide +kernel⟩
theorem ok_check {f : Addr} {fd : FuncData} (F : Fun K "check_letters" "check_letters" s_check_letters f fd) (mis : mg "isinstance" = none) (mst : mg "str" = none) (me : mg "enumerate" = none) (gA : ∃ u, mg "ALPHABET" = some u ∧ RelV (.str "abcd") u) :
    FnOk P w K mg base CX0 1 f fd ["letters", "text"] spCheck := by
  refine F.ok scCheck (fun vs H Q E h => ?_) (fun cdv A outer s₀ H vs Q E hr h => ?_)
  · obtain ⟨s, ds, rfl, _⟩ := h
    rfl
  · obtain ⟨s, ds, rfl, hs, hd, hl, q⟩ := h
    refine ⟨_, pss_cons (ps_if (pt_not (pt_val (pe_callB call_isi (by rfl) mis (by decide +kernel) (pa_cons (pv 1) (pa_cons (pe_bltn (v := .ty "str") (by rfl) mst (by decide +kernel) rfl) pa_nil))))) (pss_one ps_never) pss_nil)
      (pss_one (ps_for PassesOwn.never rfl (pi_enumS (by rfl) me (pa_cons (pv 1) pa_nil)) (pg_tup rfl (pgs_cons (pg_name (i := 2) scCheck.nd rfl (.inl rfl)) (pgs_cons (pg_name (i := 3) scCheck.nd rfl (.inl rfl)) pgs_nil)))
        (pss_one (ps_if (pt_cmpR op_notIn_sign (pv 3) (pe_slice sl_str (C8.pe_gc (by rfl) gA) po_none (po_some (pv 0))) (by rfl)) (pss_one ps_never) pss_nil)))), ?_⟩
    refine ⟨_, rfl, tv ds, .ty "str", .type "str", .type "str", true, rfl, .ty _, .base (.str _), kit_ty (by decide +kernel), true, rfl, iteF ?_⟩
    refine ⟨_, rfl, tx ds, rfl, tx_ascii (by omega) hd, for_it walk_enumS (fun i σ H' => ∃ y z, σ = [some (.int s), some (tv ds), y, z] ∧ Same H H') ⟨none, none, rfl, Same.refl H⟩ (fun _ _ _ _ _ => trivial) ?_ ?_⟩
    · rintro i x σ H1 H1' hi ⟨y, z, rfl, s1⟩ ⟨T, c, rfl, nT, hc, rfl⟩
      obtain ⟨d, hdi, rfl⟩ := cps_at hc
      have hds := hd d (List.mem_of_getElem? hdi)
      refine ⟨T, [.int (i : Nat), .str ⟨#[97 + d]⟩], rfl, SqT.of upd_same, rfl, .int (i : Nat), [.str ⟨#[97 + d]⟩], rfl, .str ⟨#[97 + d]⟩, [], rfl, rfl, ?_⟩
      refine ⟨_, rfl, _, rfl, _, rfl, _, rfl, by decide, 97 + d, abc s, rfl, congrArg V.str (abc_cut s hs), _, rfl, ?_⟩
      rw [in_abc hds]
      exact iteF ⟨_, _, rfl, s1.trans (same_upd nT)⟩
    · rintro σ H1 ⟨y, z, rfl, s1⟩
      exact q H1 s1
end
end WP
namespace WP
open PySem L2
abbrev s_texts_of : Stmt := top 15
section
variable {K : PySem.W.Frag} {mg : Str → Option Value} {base : Heap} {w : World} {P : Program}
/-! ### texts_of -/
abbrev nTextsOf : List Str := ["letters", "length", "texts", "_", "text", "letter"]
theorem scTextsOf : FnScope nTextsOf ["letters", "length"] (defScope s_texts_of) := ⟨rfl, rfl, rfl, by decide +kernel, rfl, by decide +kernel, by decide +kernel⟩
theorem tv_get {l : List (List Nat)} {i : Nat} {t : List Nat} (h : l[i]? = some t) : (l.map tv)[i]? = some (tv t) := by
  rw [List.getElem?_map, h]
  rfl
theorem ok_texts_of {f : Addr} {fd : FuncData} (F : Fun K "texts_of" "texts_of" s_texts_of f fd) (mr : mg "range" = none) (gA : ∃ u, mg "ALPHABET" = some u ∧ RelV (.str "abcd") u) : FnOk P w K mg base CX0 1 f fd ["letters", "length"] spTexts := by
  refine F.ok scTextsOf (fun vs H Q E h => ?_) (fun cdv A outer s₀ H vs Q E hr h => ?_)
  · obtain ⟨s, n, rfl, _⟩ := h
    rfl
  · obtain ⟨s, n, rfl, hs, hn, hp, q⟩ := h
    refine ⟨_, pss_cons (ps_set (i := 2) scTextsOf.nd rfl (.inl rfl) (pe_lst (pa_cons pe_str pa_nil)))
      (pss_cons (ps_for PassesOwn.never rfl (pi_range1 (by rfl) mr (pa_cons (pv 1) pa_nil)) (pg_name (i := 3) scTextsOf.nd rfl (.inl rfl))
        (pss_one (ps_setLc2 (i := 2) (own := [("text", 4), ("letter", 5)]) (vs1 := [5]) (g := gName 4) (g1 := gName 5) (tt := tYes) (tt1 := tYes) rfl scTextsOf.nd rfl rfl (sw_true rfl rfl rfl (by decide +kernel)) (pi_list (pv 2))
          (blkOk_by (own := [("text", 4), ("letter", 5)]) (N := nTextsOf) (sc := defScope s_texts_of) (by decide +kernel)) (by decide)
          (fun _ _ _ _ _ => pg_name (i := 4) scTextsOf.nd rfl (.inl rfl)) (fun _ _ _ _ _ => pts_nil)
          (fun _ _ _ _ _ => pi_str (pe_slice sl_str (C8.pe_gc (by rfl) gA) po_none (po_some (pv 0))))
          (fun _ _ _ _ _ => pg_name (i := 5) scTextsOf.nd rfl (.inl rfl)) (fun _ _ _ _ _ => pts_nil)
          (fun _ _ _ _ _ => pe_op op_add_str (pv 4) (pv 5)))))
      (pss_one (ps_ret (pv 2)))), ?_⟩
    refine ⟨by show 1 ≤ sizeLine; decide, fun p0 n0 => ?_⟩
    refine ⟨_, rfl, n, rfl, by omega, by omega, for_range (lo := 0) (n := (n : Int).toNat) (fun i σ H' => ∃ p y3 y4 y5, σ = [some (.int s), some (.int n), some (.ref p), y3, y4, y5] ∧ Same H H' ∧ H p = none ∧ H' p = some (.lst ((allT s i).map tv)))
      ⟨p0, none, none, none, rfl, same_upd n0, n0, upd_same⟩ ?_ ?_⟩
    · rintro i σ H1 hi ⟨p, y3, y4, y5, rfl, s1, np, hP⟩
      rw [Int.toNat_natCast] at hi
      have hsz : (allT s (i + 1)).length ≤ 100000 := by
        rw [allT_len]
        exact Nat.le_trans (Nat.pow_le_pow_right (by omega) hi) hp
      have hmul : (allT s (i + 1)).length = (allT s i).length * s := by rw [allT_len, allT_len, Nat.pow_succ]
      refine ⟨_, rfl, p, rfl, ⟨_, SqL.of hP⟩, fun D nD => ?_⟩
      refine ⟨fun j m H2 => m = (allT s i).length - j ∧ j ≤ (allT s i).length ∧ Same H1 H2 ∧ H2 D = some (.lst ((ext s ((allT s i).take j)).map tv)), ⟨_, rfl, Nat.zero_le _, same_upd nD, upd_same⟩, ?_⟩
      rintro j m H2 ⟨rfl, hj, s2, hD⟩
      have hP2 := s2 _ _ hP
      have len1 : ((allT s i).map tv).length = (allT s i).length := List.length_map _
      by_cases hlt : j < (allT s i).length
      · have ht : (allT s i)[j]? = some (allT s i)[j] := List.getElem?_eq_getElem hlt
        generalize (allT s i)[j] = t at ht
        have htl : t.length = i := ((allT_mem s i t).mp (List.mem_of_getElem? ht)).1
        refine .inr ⟨⟨_, _, SqL.of hP2, tv_get ht⟩, fun H' => Same H1 H' ∧ H' D = some (.lst ((ext s ((allT s i).take (j + 1))).map tv)), fun H' h' => ⟨(allT s i).length - (j + 1), by omega, rfl, hlt, h'.1, h'.2⟩, fun x H' hy => ?_⟩
        obtain ⟨rfl, hy2⟩ := hy
        have ex := hy2 _ (SqL.of hP2)
        rw [tv_get ht] at ex
        have ex := (Option.some.inj ex).symm
        subst ex
        refine ⟨rfl, yes_i ?_⟩
        refine ⟨_, rfl, _, rfl, _, rfl, by decide, abc s, congrArg V.str (abc_cut s hs), ?_⟩
        refine ⟨fun d m H3 => m = s - d ∧ d ≤ s ∧ Same H1 H3 ∧ H3 D = some (.lst ((ext s ((allT s i).take j) ++ (List.range d).map fun e => t ++ [e]).map tv)), ⟨_, rfl, Nat.zero_le _, s2, by rw [hD]; show _ = some (HO.lst ((ext s ((allT s i).take j) ++ []).map tv)); rw [List.append_nil]⟩, ?_⟩
        rintro d m H3 ⟨rfl, hd, s3, hD3⟩
        by_cases hd2 : d < s
        · refine .inr ⟨by show d < (abc s).cps.size; rw [abc_size]; exact hd2, fun H' => Same H1 H' ∧ H' D = some (.lst ((ext s ((allT s i).take j) ++ (List.range (d + 1)).map fun e => t ++ [e]).map tv)), fun H' h' => ⟨s - (d + 1), by omega, rfl, hd2, h'.1, h'.2⟩, fun x H' hy => ?_⟩
          obtain ⟨rfl, c, hc, rfl⟩ := hy
          obtain ⟨_, rfl⟩ := abc_at hc
          refine ⟨rfl, yes_i ?_⟩
          refine ⟨_, rfl, _, rfl, _, _, rfl, rfl, ?_, _, hD3, ?_, ?_, ?_⟩
          · rw [tx_len, htl]
            exact Nat.le_of_lt (big_size (by show i + 1 ≤ 1000000; omega))
          · rw [List.length_map, List.length_append, List.length_map, List.length_range, ext_len, List.length_take, Nat.min_eq_left hj]
            have h2 : (j + 1) * s ≤ (allT s i).length * s := Nat.mul_le_mul_right s hlt
            rw [Nat.add_mul, Nat.one_mul] at h2
            exact big_size (by omega)
          · exact same_put nD s3
          · rw [upd_same, map_range_succ, ← List.append_assoc]
            generalize (ext s ((allT s i).take j) ++ (List.range d).map fun e => t ++ [e]) = l
            show some (HO.lst (l.map tv ++ [V.str (tx t ++ tx [d])])) = some (HO.lst ((l ++ [t ++ [d]]).map tv))
            rw [tx_cat, List.map_append]
            rfl
        · have e : d = s := by omega
          subst e
          refine .inl ⟨by show (abc d).cps.size ≤ d; rw [abc_size]; exact Nat.le_refl _, s3, ?_⟩
          rw [hD3, List.take_add_one, ht]
          show _ = some (HO.lst ((ext d ((allT d i).take j ++ [t])).map tv))
          rw [ext_snoc]
      · have e : j = (allT s i).length := by omega
        subst e
        refine .inl ⟨⟨_, SqL.of hP2, by rw [len1]; exact Nat.le_refl _⟩, D, _, _, _, rfl, s1.trans s2, s1.free nD, ?_⟩
        rw [List.take_length] at hD
        exact hD
    · rintro σ H1 ⟨p, y3, y4, y5, rfl, s1, np, hP⟩
      rw [Int.toNat_natCast] at hP
      exact ⟨_, rfl, q _ p s1 np hP⟩
end
end WP
namespace WP
open PySem L2
abbrev s_init : Stmt := inClass (top 25) 0
abbrev s_offset : Stmt := inClass (top 25) 3
section
variable {K : PySem.W.Frag} {mg : Str → Option Value} {base : Heap} {w : World} {P : Program}
/-! ### the checks of the sizes and of the table -/
theorem scSizes : FnScope ["letters", "w", "k"] ["letters", "w", "k"] (defScope s_check_sizes) := ⟨rfl, rfl, rfl, by decide +kernel, rfl, by decide +kernel, by decide +kernel⟩
theorem ok_sizes {f fB : Addr} {fd fdB : FuncData} (F : Fun K "_check_sizes" "_check_sizes" s_check_sizes f fd)
    (GB : FnOk P w K mg base CX0 2 fB fdB ["value", "low", "high"] spBetween) (kB : PySem.W.keepIn K (.ref fB) = true) (bB : Binds K fdB ["value", "low", "high"] []) (gB : mg "is_between" = some (.ref fB)) :
    FnOk P w K mg base CX0 3 f fd ["letters", "w", "k"] spSizes := by
  refine F.ok scSizes (fun vs H Q E h => ?_) (fun cdv A outer s₀ H vs Q E hr h => ?_)
  · obtain ⟨s, w, k, rfl, _⟩ := h
    rfl
  · obtain ⟨s, w, k, rfl, ⟨h1, h2, h3, h4, h5⟩, q⟩ := h
    refine ⟨_, pss_cons (ps_if (pt_not (pt_val (pe_call GB hr (by rfl) gB kB bB .nil pass0 (pa_cons (pv 0) (pa_cons pe_int (pa_cons pe_int pa_nil)))))) (pss_one ps_never) pss_nil)
      (pss_cons (ps_if (pt_not (pt_val (pe_call GB hr (by rfl) gB kB bB .nil pass0 (pa_cons (pv 1) (pa_cons pe_int (pa_cons pe_int pa_nil)))))) (pss_one ps_never) pss_nil)
      (pss_one (ps_if (pt_not (pt_val (pe_call GB hr (by rfl) gB kB bB .nil pass0 (pa_cons (pv 2) (pa_cons pe_int (pa_cons pe_int pa_nil)))))) (pss_one ps_never) pss_nil))), ?_⟩
    exact ⟨_, rfl, s, 2, 4, rfl, by omega, by omega, true, rfl, iteF ⟨_, rfl, w, 1, 5, rfl, by omega, by omega, true, rfl, iteF ⟨_, rfl, k, 1, 4, rfl, by omega, by omega, true, rfl, iteF q⟩⟩⟩
theorem scIsTable : FnScope nIsTable ["letters", "w", "k", "table"] (defScope s_is_table) := ⟨rfl, rfl, rfl, by decide +kernel, rfl, by decide +kernel, by decide +kernel⟩
theorem ok_is_table {f fB fS fN : Addr} {fd fdB fdS fdN : FuncData} (F : Fun K "_is_table" "_is_table" s_is_table f fd) (ml : mg "len" = none) (mal : mg "all" = none)
    (GB : FnOk P w K mg base CX0 2 fB fdB ["value", "low", "high"] spBetween) (kB : PySem.W.keepIn K (.ref fB) = true) (bB : Binds K fdB ["value", "low", "high"] []) (gB : mg "is_between" = some (.ref fB))
    (GS : FnOk P w K mg base CX0 1 fS fdS ["value"] (spSeq K)) (kS : PySem.W.keepIn K (.ref fS) = true) (bS : Binds K fdS ["value"] []) (gS : mg "is_sequence" = some (.ref fS))
    (GN : FnOk P w K mg base CX0 1 fN fdN ["letters", "length"] spPower) (kN : PySem.W.keepIn K (.ref fN) = true) (bN : Binds K fdN ["letters", "length"] []) (gN : mg "count_of" = some (.ref fN)) :
    FnOk P w K mg base CX0 3 f fd ["letters", "w", "k", "table"] spIsTable := by
  refine F.ok scIsTable (fun vs H Q E h => ?_) (fun cdv A outer s₀ H vs Q E hr h => ?_)
  · obtain ⟨s, w, k, p, tb, rfl, _⟩ := h
    rfl
  · obtain ⟨s, w, k, p, tb, rfl, ⟨h1, h2, h3, h4, h5⟩, hp, ht, htl, q⟩ := h
    refine ⟨_, pss_cons (ps_if (PW.pt (pw_or (pt_not (pt_val (pe_call GS (hr.mono (by decide)) (by rfl) gS kS bS .nil pass0 (pa_cons (pv 3) pa_nil)))) (pw_or1 (pt_cmpR op_ne (pe_callB call_len_seq (by rfl) ml PySem.boot_len (pa_cons (pv 3) pa_nil))
        (pe_call GN (hr.mono (by decide)) (by rfl) gN kN bN .nil pass0 (pa_cons (pv 0) (pa_cons (pe_op op_sub (pe_op op_add (pv 1) (pv 2)) pe_int) pa_nil))) (nomark _))))) (pss_one (ps_ret pe_bl)) pss_nil)
      (pss_one (ps_ret (pe_callB (cr_all rfl) (by rfl) mal (by decide +kernel) (pa_cons (pe_lc (own := [("at", 4)]) (g := gName 4) (tt := tYes) rfl scIsTable.nd (pi_list (pv 3))
        (blkOk_by (own := [("at", 4)]) (N := nIsTable) (sc := defScope s_is_table) (by decide +kernel)) (fun _ _ _ _ _ => pg_name (i := 4) scIsTable.nd rfl (.inl rfl)) (fun _ _ _ _ _ => pts_nil)
        (fun _ _ _ _ _ => pe_call GB hr (by rfl) gB kB bB .nil pass0 (pa_cons (pv 4) (pa_cons pe_int (pa_cons (pe_op op_sub (pv 1) pe_int) pa_nil))))) pa_nil)))), ?_⟩
    refine ⟨_, rfl, p, _, rfl, hp, fun H1 s1 => ⟨true, rfl, ?_⟩⟩
    refine iteF ?_
    have tl : (tb.map iv).length = tb.length := List.length_map _
    refine ⟨_, rfl, p, _, rfl, .inl (SqL.of (s1 _ _ hp)), _, rfl, _, rfl, _, rfl, _, _, rfl, rfl, _, _, rfl, rfl, s, w + k - 1, ?_, by omega, by omega, rfl, _, rfl, ?_⟩
    · show [V.int s, V.int ((w : Int) + k - 1)] = _
      rw [wk_int h2]
    · have e1 : V.int ((tb.map iv).length : Nat) = V.int ((s ^ (w + k - 1) : Nat) : Int) := by rw [tl, ht.1]
      rw [decide_eq_true e1]
      refine iteF ?_
      refine ⟨_, rfl, p, rfl, ⟨_, SqL.of (s1 _ _ hp)⟩, fun D nD => ?_⟩
      refine lc_acc (walk_list (K := K) (a := p) (xs := tb.map iv)) nD (fun i => (List.replicate i true).map V.bl) rfl (fun i hi => ?_) (fun H2 s2 => SqL.of ((s1.trans s2) _ _ hp)) ?_ ?_
      · rw [List.length_map, List.length_replicate]
        rw [tl] at hi
        exact big_size (by omega)
      · rintro i x H2 H2' hi s2 ⟨rfl, hx⟩ kk k0
        obtain ⟨t, htt, rfl⟩ := iv_at hx
        have h6 := ht.2 t (List.mem_of_getElem? htt)
        refine ⟨rfl, yes_i ?_⟩
        refine ⟨_, rfl, _, rfl, _, _, rfl, rfl, t, 0, (w : Int) - 1, rfl, by omega, by omega, kk _ _ (Same.refl _) ?_⟩
        rw [List.replicate_succ', List.map_append]
        rfl
      · intro H2 s2 hD
        refine ⟨D, _, rfl, SqL.of hD, ?_⟩
        have e2 : (List.replicate (tb.map iv).length true).all id = true := by
          rw [List.all_eq_true]
          intro b hb
          rw [List.eq_of_mem_replicate hb]
          rfl
        rw [e2]
        exact q _ (s1.trans s2)
end
end WP
namespace WP
open PySem L2
section
variable {K : PySem.W.Frag} {mg : Str → Option Value} {base : Heap} {w : World} {P : Program}
/-! ### a rule is made -/
theorem scInit : FnScope ["self", "letters", "w", "k", "table"] ["self", "letters", "w", "k", "table"] (defScope s_init) := ⟨rfl, rfl, rfl, by decide +kernel, rfl, by decide +kernel, by decide +kernel⟩
theorem ok_init {f fZ fT C : Addr} {fd fdZ fdT : FuncData} (F : Fun K "__init__" "Rule.__init__" s_init f fd) (T : RTxt K mg C) (mt : mg "tuple" = none)
    (GZ : FnOk P w K mg base CX0 3 fZ fdZ ["letters", "w", "k"] spSizes) (kZ : PySem.W.keepIn K (.ref fZ) = true) (bZ : Binds K fdZ ["letters", "w", "k"] []) (gZ : mg "_check_sizes" = some (.ref fZ))
    (GT : FnOk P w K mg base CX0 3 fT fdT ["letters", "w", "k", "table"] spIsTable) (kT : PySem.W.keepIn K (.ref fT) = true) (bT : Binds K fdT ["letters", "w", "k", "table"] []) (gT : mg "_is_table" = some (.ref fT)) :
    FnOk P w K mg base CX0 4 f fd ["self", "letters", "w", "k", "table"] (spInit C) := by
  refine F.ok scInit (fun vs H Q E h => ?_) (fun cdv A outer s₀ H vs Q E hr h => ?_)
  · obtain ⟨x, dx, p, s, w, k, tb, rfl, _⟩ := h
    rfl
  · obtain ⟨x, dx, p, s, w, k, tb, rfl, hx, og, hp, ht, htl, q⟩ := h
    refine ⟨_, pss_cons (ps_expr (pe_call GZ hr (by rfl) gZ kZ bZ .nil pass0 (pa_cons (pv 1) (pa_cons (pv 2) (pa_cons (pv 3) pa_nil)))))
      (pss_cons (ps_if (pt_not (pt_val (pe_call GT hr (by rfl) gT kT bT .nil pass0 (pa_cons (pv 1) (pa_cons (pv 2) (pa_cons (pv 3) (pa_cons (pv 4) pa_nil))))))) (pss_one ps_never) pss_nil)
      (pss_cons (ps_fld (pv 0) (pv 1) rfl) (pss_cons (ps_fld (pv 0) (pv 2) rfl) (pss_cons (ps_fld (pv 0) (pv 3) rfl)
      (pss_one (ps_fld (pv 0) (pe_callTy call_tuple_of (by rfl) mt (by decide +kernel) (pa_cons (pv 4) pa_nil)) rfl)))))), ?_⟩
    have px : p ≠ x := ne_of hp hx (by intro z; cases z)
    refine ⟨_, rfl, _, rfl, _, rfl, s, w, k, rfl, og, ?_⟩
    refine ⟨_, rfl, _, rfl, _, rfl, _, rfl, s, w, k, p, tb, rfl, og, hp, ht, htl, fun H1 s1 => ⟨true, rfl, iteF ?_⟩⟩
    have hx1 := s1 _ _ hx
    have hp1 := s1 _ _ hp
    have l1 := putF_len "letters" (iv s) []
    have l2 := putF_len "w" (iv w) (putF "letters" (iv s) [])
    have l3 := putF_len "k" (iv k) (putF "w" (iv w) (putF "letters" (iv s) []))
    refine ⟨_, rfl, _, rfl, x, C, dx, _, rfl, hx1, T.cl, T.nL, (by show 0 < 1000; decide), ?_⟩
    refine ⟨_, rfl, _, rfl, x, C, dx, _, rfl, upd_same, T.cl, T.nW, (by show (putF "letters" (iv s) []).length < 1000; have : ([] : List (Str × V)).length = 0 := rfl; omega), ?_⟩
    refine ⟨_, rfl, _, rfl, x, C, dx, _, rfl, upd_same, T.cl, T.nK, (by show (putF "w" (iv w) (putF "letters" (iv s) [])).length < 1000; have : ([] : List (Str × V)).length = 0 := rfl; omega), ?_⟩
    refine ⟨_, rfl, p, _, rfl, .inl ⟨SqL.of (by rw [upd_ne px, upd_ne px, upd_ne px]; exact hp1), fun t nt => ?_⟩⟩
    have xt : x ≠ t := ne_of_none (upd_same (a := x)) nt
    refine ⟨_, rfl, x, C, dx, _, rfl, (by rw [upd_ne xt]; exact upd_same), T.cl, T.nT, (by show (putF "k" (iv k) (putF "w" (iv w) (putF "letters" (iv s) []))).length < 1000; have : ([] : List (Str × V)).length = 0 := rfl; omega), ?_⟩
    have nt0 : H1 t = none := by
      rw [upd_ne xt.symm, upd_ne xt.symm, upd_ne xt.symm] at nt
      exact nt
    refine q _ ⟨dx, t, upd_same, by rw [upd_ne xt.symm]; exact upd_same, s1.free nt0⟩ fun c o hc hcx => ?_
    rw [upd_ne hcx, upd_ne (ne_of_none (s1 _ _ hc) nt0), upd_ne hcx, upd_ne hcx, upd_ne hcx]
    exact s1 _ _ hc
/-! ### the offset for a good window -/
theorem scOffset : FnScope ["self", "window"] ["self", "window"] (defScope s_offset) := ⟨rfl, rfl, rfl, by decide +kernel, rfl, by decide +kernel, by decide +kernel⟩
theorem ok_offset {f fC fN C : Addr} {fd fdC fdN : FuncData} (F : Fun K "offset" "Rule.offset" s_offset f fd) (T : RTxt K mg C) (mis : mg "isinstance" = none) (mst : mg "str" = none) (ml : mg "len" = none)
    (GC : FnOk P w K mg base CX0 1 fC fdC ["letters", "text"] spCheck) (kC : PySem.W.keepIn K (.ref fC) = true) (bC : Binds K fdC ["letters", "text"] []) (gC : mg "check_letters" = some (.ref fC))
    (GN : FnOk P w K mg base CX0 1 fN fdN ["letters", "text"] spNumber) (kN : PySem.W.keepIn K (.ref fN) = true) (bN : Binds K fdN ["letters", "text"] []) (gN : mg "number_of" = some (.ref fN)) :
    FnOk P w K mg base CX0 2 f fd ["self", "window"] (spOffset C) := by
  refine F.ok scOffset (fun vs H Q E h => ?_) (fun cdv A outer s₀ H vs Q E hr h => ?_)
  · obtain ⟨x, s, w, k, tb, ds, rfl, _⟩ := h
    rfl
  · obtain ⟨x, s, w, k, tb, ds, rfl, ⟨dx, t, hx, ht⟩, ⟨h1, h2, h3, h4, h5⟩, htl, hl, hd, q⟩ := h
    refine ⟨_, pss_cons (ps_if (PW.pt (pw_or (pt_not (pt_val (pe_callB call_isi (by rfl) mis (by decide +kernel) (pa_cons (pv 1) (pa_cons (pe_bltn (v := .ty "str") (by rfl) mst (by decide +kernel) rfl) pa_nil)))))
        (pw_or1 (pt_cmpR op_ne (pe_callB call_len_str (by rfl) ml PySem.boot_len (pa_cons (pv 1) pa_nil)) (pe_op op_sub (pe_op op_add (pe_fld (pv 0) rfl) (pe_fld (pv 0) rfl)) pe_int) (nomark _))))) (pss_one ps_never) pss_nil)
      (pss_cons (ps_expr (pe_call GC hr (by rfl) gC kC bC .nil pass0 (pa_cons (pe_fld (pv 0) rfl) (pa_cons (pv 1) pa_nil))))
      (pss_one (ps_ret (pe_ix ix_tup (pe_fld (pv 0) rfl) (pe_call GN hr (by rfl) gN kN bN .nil pass0 (pa_cons (pe_fld (pv 0) rfl) (pa_cons (pv 1) pa_nil))) (fun _ _ => rfl))))), ?_⟩
    refine ⟨_, rfl, tv ds, .ty "str", .type "str", .type "str", true, rfl, .ty _, .base (.str _), kit_ty (by decide +kernel), true, rfl, iteF ?_⟩
    refine ⟨_, rfl, tx ds, rfl, by rw [tx_len, hl]; exact Nat.le_of_lt (big_size (by omega)), _, rfl, x, C, dx, _, _, rfl, hx, T.cl, T.nW, rf_w _ _ _ _, _, rfl, x, C, dx, _, _, rfl, hx, T.cl, T.nK, rf_k _ _ _ _, _, _, rfl, rfl, _, _, rfl, rfl, rfl, _, rfl, ?_⟩
    have e1 : V.int ((tx ds).length : Nat) = V.int ((w : Int) + k - 1) := by rw [tx_len, hl, wk_int h2]
    rw [show decide (V.int ((tx ds).length : Nat) = V.int ((w : Int) + k - 1)) = true from decide_eq_true e1]
    refine iteF ?_
    refine ⟨_, rfl, x, C, dx, _, _, rfl, hx, T.cl, T.nL, rf_letters _ _ _ _, _, rfl, s, ds, rfl, h1, hd, by omega, fun H1 s1 => ?_⟩
    have hx1 := s1 _ _ hx
    have ht1 := s1 _ _ ht
    have hn : num s ds < tb.length := by rw [htl]; exact num_lt _ ds hl hd
    refine ⟨_, rfl, x, C, dx, _, _, rfl, hx1, T.cl, T.nT, rf_table _ _ _ _, _, rfl, x, C, dx, _, _, rfl, hx1, T.cl, T.nL, rf_letters _ _ _ _, _, rfl, s, ds, rfl, by omega, fun d hdd => Nat.lt_of_lt_of_le (hd d hdd) (by omega), by omega, ?_⟩
    exact ⟨t, _, _, _, rfl, rfl, SqT.of ht1, atI_nat (j := num s ds) (getD_at hn), q _ s1⟩
end
end WP
namespace WP
open PySem L2
abbrev s_picks : Stmt := top 19
section
variable {K : PySem.W.Frag} {mg : Str → Option Value} {base : Heap} {w : World} {P : Program}
/-! ### picks -/
theorem scPicks : FnScope nPicks ["rule", "text"] (defScope s_picks) := ⟨rfl, rfl, rfl, by decide +kernel, rfl, by decide +kernel, by decide +kernel⟩
theorem ok_picksV {f fC fO C : Addr} {fd fdC fdO : FuncData} (F : Fun K "picks" "picks" s_picks f fd) (T : RTxt K mg C) (ml : mg "len" = none) (mr : mg "range" = none) (mt : mg "tuple" = none) (mso : mg "sorted" = none) (mse : mg "set" = none)
    (GC : FnOk P w K mg base CX0 1 fC fdC ["letters", "text"] spCheck) (kC : PySem.W.keepIn K (.ref fC) = true) (bC : Binds K fdC ["letters", "text"] []) (gC : mg "check_letters" = some (.ref fC))
    (GO : FnOk P w K mg base CX0 2 fO fdO ["self", "window"] (spOffset C)) (mO : Meth K C "offset" fO) (bO : Binds K fdO ["self", "window"] []) :
    FnOk P w K mg base CX0 3 f fd ["rule", "text"] (spPicksV C) := by
  refine F.ok scPicks (fun vs H Q E h => ?_) (fun cdv A outer s₀ H vs Q E hr h => ?_)
  · obtain ⟨x, s, w, k, tb, ds, rfl, _⟩ := h
    rfl
  · obtain ⟨x, s, w, k, tb, ds, rfl, hR, og, htl, hl, hd, q⟩ := h
    have hr1 : Room 1 _ := hr.mono (by decide)
    obtain ⟨h1, h2, h3, h4, h5⟩ := id og
    obtain ⟨dx, t, hx, htt⟩ := id hR
    refine ⟨_, pss_cons (ps_expr (pe_call GC hr1 (by rfl) gC kC bC .nil pass0 (pa_cons (pe_fld (pv 0) rfl) (pa_cons (pv 1) pa_nil))))
      (pss_cons (ps_set (i := 2) scPicks.nd rfl (.inr rfl) (pe_op op_sub (pe_op op_add (pe_fld (pv 0) rfl) (pe_fld (pv 0) rfl)) pe_int))
      (pss_cons (ps_setLc (i := 3) (own := [("at", 4)]) (g := gName 4) (tt := tYes) rfl scPicks.nd rfl rfl (sw_true rfl rfl rfl (by decide +kernel))
          (pi_range1 (by rfl) mr (pa_cons (pe_op op_add (pe_op op_sub (pe_callB call_len_str (by rfl) ml PySem.boot_len (pa_cons (pv 1) pa_nil)) (pv 2)) pe_int) pa_nil))
          (blkOk_by (own := [("at", 4)]) (N := nPicks) (sc := defScope s_picks) (by decide +kernel)) (fun _ _ _ _ _ => pg_name (i := 4) scPicks.nd rfl (.inl rfl)) (fun _ _ _ _ _ => pts_nil)
          (fun _ _ _ _ _ => pe_op op_add (pv 4) (pe_meth (pv 0) T.cl mO GO hr bO .nil pass0 (pa_cons (pe_slice sl_str (pv 1) (po_some (pv 4)) (po_some (pe_op op_add (pv 4) (pv 2)))) pa_nil))))
      (pss_one (ps_ret (pe_callTy call_tuple_of (by rfl) mt (by decide +kernel) (pa_cons (pe_callB (cr_srtS rfl) (by rfl) mso (by decide +kernel) (pa_cons (pe_callTy (cr_setL rfl) (by rfl) mse (by decide +kernel) (pa_cons (pv 3) pa_nil)) pa_nil)) pa_nil)))))), ?_⟩
    refine ⟨_, rfl, x, C, dx, _, _, rfl, hx, T.cl, T.nL, rf_letters _ _ _ _, _, rfl, s, ds, rfl, h1, hd, by omega, fun H1 s1 => ?_⟩
    have hx1 := s1 _ _ hx
    have hz : (tx ds).length ≤ sizeLine := by rw [tx_len]; exact Nat.le_of_lt (big_size (by omega))
    refine ⟨_, rfl, x, C, dx, _, _, rfl, hx1, T.cl, T.nW, rf_w _ _ _ _, _, rfl, x, C, dx, _, _, rfl, hx1, T.cl, T.nK, rf_k _ _ _ _, _, _, rfl, rfl, _, _, rfl, rfl, ?_⟩
    refine ⟨_, rfl, tx ds, rfl, hz, _, rfl, _, _, rfl, rfl, _, _, rfl, rfl, _, rfl, ?_, ?_, fun D nD => ?_⟩
    · rw [tx_len]
      omega
    · rw [tx_len]
      omega
    have nf : ∀ t, (rflds s w k t).lookup ("offset" : Str) = none := fun t => rf_no (by decide +kernel) (by decide +kernel) (by decide +kernel) (by decide +kernel) s w k t
    have en : (((tx ds).length : Int) - ((w : Int) + k - 1) + 1).toNat = wins w k ds := by rw [tx_len]; exact wins_int h2 _
    refine lc_acc walk_range nD (fun i => (List.range i).map fun j => iv (plc s w k tb ds j)) rfl (fun i hi => ?_) (fun _ _ => trivial) ?_ ?_
    · rw [List.length_map, List.length_range]
      rw [en] at hi
      unfold wins at hi
      exact big_size (by omega)
    · rintro i y H2 H2' hi s2 ⟨rfl, rfl⟩ kk k0
      rw [en] at hi
      unfold wins at hi
      have hR2 := hR.same (s1.trans s2)
      obtain ⟨g1, g2⟩ := win_ok (s := s) (n := w + k - 1) (j := i) (ds := ds) (by omega) hd
      refine ⟨rfl, yes_i ?_⟩
      refine ⟨_, rfl, _, rfl, x, dx, _, rfl, s2 _ _ hx1, nf _, _, rfl, _, rfl, _, rfl, _, rfl, _, rfl, _, _, rfl, rfl, _, rfl, tx ds, rfl, hz, x, s, w, k, tb, (ds.drop i).take (w + k - 1), ?_, hR2, og, htl, g1, g2, fun H3 s3 => ⟨_, _, rfl, rfl, kk _ _ s3 ?_⟩⟩
      · show [V.ref x, V.str (cutS (tx ds) (some (0 + (i : Int))) (some (0 + (i : Int) + ((w : Int) + k - 1))))] = _
        rw [Int.zero_add, show (i : Int) + ((w : Int) + k - 1) = ((i + (w + k - 1) : Nat) : Int) by omega, cut_mid, Nat.add_sub_cancel_left]
      · rw [map_range_succ]
        show _ ++ [V.int _] = _ ++ [V.int _]
        congr 2
        show V.int _ = V.int _
        congr 1
        unfold plc
        omega
    intro H2 s2 hD
    rw [en] at hD
    have e1 : ((List.range (wins w k ds)).map fun j => iv (plc s w k tb ds j)) = ((List.range (wins w k ds)).map fun j => ((plc s w k tb ds j : Nat) : Int)).map V.int := by
      rw [List.map_map]
      rfl
    rw [e1] at hD
    refine ⟨_, rfl, D, _, rfl, SqL.of hD, ?_, fun p c np => ⟨p, _, c, rfl, upd_same, fun ns p2 asc mem np2 => ⟨p2, _, rfl, .inl ⟨SqL.of upd_same, fun t2 nt2 => ?_⟩⟩⟩⟩
    · rw [List.length_map, List.length_range]
      unfold wins
      omega
    have s3 := fun o => same_upd (o := o) np
    have s4 := same_upd (o := .lst (ns.map V.int)) np2
    have s5 := same_upd (o := .tup (ns.map V.int)) nt2
    have sz := ((s1.trans s2).trans (s3 _)).trans s4
    refine q _ t2 ns (sz.trans s5) (sz.free nt2) upd_same ⟨asc, fun z => (mem z).trans ?_⟩
    rw [decide_eq_true_iff, List.mem_map]
    constructor
    · rintro ⟨j, hj, e⟩
      exact ⟨j, List.mem_range.mp hj, e.symm⟩
    · rintro ⟨j, hj, e⟩
      exact ⟨j, List.mem_range.mpr hj, e.symm⟩
/-! ### whether the place amid a text is picked -/
end
end WP

set_option Elab.async false
set_option linter.all false
set_option maxRecDepth 100000
set_option maxHeartbeats 1200000
local macro_rules | `(tactic| walk_at "rd1") => `(tactic| first
  | with_reducible apply DL.rd_seq
  | with_reducible apply DL.rd_set
  | with_reducible apply DL.rd_next
  | with_reducible apply DL.rd_ret
  | with_reducible apply DL.rd_ifS
  | with_reducible apply DL.rd_drop
  | with_reducible apply DL.rd_op
  | ((with_reducible apply DL.rd_val); exact rfl)
  | ((with_reducible apply DL.rd_ptr); exact rfl)
  | with_reducible apply DL.rd_int
  | with_reducible apply DL.rd_call
  | with_reducible apply DL.rd_cb
  | ((with_reducible apply DL.rd_letters); assumption)
  | ((with_reducible apply DL.rd_w); assumption)
  | ((with_reducible apply DL.rd_kk); assumption)
  | ((with_reducible apply DL.rd_table); assumption)
  | with_reducible apply DL.rd_cons
  | with_reducible apply DL.rd_nil
  | with_reducible apply DL.rd_str
  | with_reducible apply DL.rd_bl
  | with_reducible apply DL.rd_non
  | with_reducible apply DL.rd_test
  | with_reducible apply DL.rd_tB
  | with_reducible apply DL.rd_notT
  | with_reducible apply DL.rd_andT
  | with_reducible apply DL.rd_orT
  | with_reducible apply DL.rd_yes
  | with_reducible apply DL.rd_notV
  | with_reducible apply DL.rd_andV
  | with_reducible apply DL.rd_orV
  | with_reducible apply DL.rd_ifE
  | with_reducible apply DL.rd_slice
  | with_reducible apply DL.ro_no
  | with_reducible apply DL.ro_some
  | with_reducible apply DL.rd_tup
  | with_reducible apply DL.rd_lst
  | with_reducible apply DL.rd_par
  | with_reducible apply DL.rg_name
  | with_reducible apply DL.rg_tup2
  | with_reducible apply L2.iteT
  | with_reducible apply L2.iteF
  | with_reducible apply DL.iteNT
  | with_reducible apply DL.iteNF
  | with_reducible apply DL.r2_addI
  | ((with_reducible apply DL.r2_mulL); exact rfl)
  | ((with_reducible apply DL.r2_mulR); exact rfl)
  | with_reducible apply DL.r2_ints
  | with_reducible apply DL.r2_cmp
  | with_reducible apply DL.r2_eqI
  | with_reducible apply DL.r2_neI
  | with_reducible apply DL.r2_inUtN
  | with_reducible apply DL.r2_niUtN
  | with_reducible apply DL.r2_inUlN
  | with_reducible apply DL.r2_niUlN
  | with_reducible apply DL.r2_inUt
  | with_reducible apply DL.r2_niUt
  | with_reducible apply DL.r2_inUl
  | with_reducible apply DL.r2_niUl
  | ((with_reducible apply DL.r2_ixUt); exact rfl)
  | ((with_reducible apply DL.r2_ixUl); exact rfl)
  | with_reducible apply DL.rc_Ul
  | with_reducible apply DL.rc_Ut
  | with_reducible apply DL.rc_Uscr
  | with_reducible apply DL.rc_int
  | with_reducible apply DL.rc_intB
  | with_reducible apply DL.rc_tuple_lst
  | with_reducible apply DL.rc_tuple_tup
  | with_reducible apply DL.rc_list_lst
  | with_reducible apply DL.rc_list_tup
  | with_reducible apply DL.rc_max2
  | with_reducible apply DL.rc_min2
  | with_reducible apply DL.rc_abs
  | ((with_reducible apply DL.rc_Utx); rotate_left)
  | ((with_reducible apply DL.r2_addX); rotate_left)
  | (refine ⟨_, _, _, _, rfl, ?_⟩)
  | (refine ⟨_, rfl, ?_⟩)
  | (refine ⟨_, _, rfl, ?_⟩)
  | (refine ⟨[], rfl, Nat.le_of_ble_eq_true rfl, ?_⟩)
  | (refine ⟨[_], rfl, Nat.le_of_ble_eq_true rfl, ?_⟩)
  | (refine ⟨[_, _], rfl, Nat.le_of_ble_eq_true rfl, ?_⟩)
  | (refine ⟨[_, _, _], rfl, Nat.le_of_ble_eq_true rfl, ?_⟩)
  | (refine ⟨[_, _, _, _], rfl, Nat.le_of_ble_eq_true rfl, ?_⟩))
local macro_rules | `(tactic| walk_at "rd") => `(tactic| repeat walk_at "rd1")
local macro_rules | `(tactic| walk_at "lens") => `(tactic| (simp only [List.length_append, List.length_take, List.length_drop, List.length_cons, List.length_nil, List.length_map, List.length_range, List.length_reverse] at *; omega))
local macro_rules | `(tactic| walk_at "wk") => `(tactic| repeat' first | exact DL.WkG.nil | apply DL.WkG.val | apply DL.WkG.any | apply DL.WkG.ptr (by decide))
namespace DL
open PySem PySem.Spec PyProof.Rows L2 WP
/-! ### orders of pieces: by_order; turned -/
def pieces (w k : Nat) (ds : List Nat) : List (List Nat) := (List.range w).map fun a => (ds.drop a).take k
def leastAt (rs : List Nat) : Nat := rs.idxOf (rs.min?.getD 0)
def byOrd (s w k : Nat) (ord : List (List Nat)) : List Nat := (allT s (w + k - 1)).map fun ds => leastAt ((pieces w k ds).map fun p => ord.idxOf p)
def turnT (s w k : Nat) (tb : List Nat) : List Nat := (allT s (w + k - 1)).map fun ds => w - 1 - tb.getD (num s ds.reverse) 0
def OrdOk (s k : Nat) (ord : List (List Nat)) : Prop := ord.length < 64 ∧ s ^ k < 64 ∧ ord.Nodup ∧ (∀ p, p.length = k → Dig s p → p ∈ ord) ∧ ∀ ys : List Str, ys.Perm (ord.map tx) → sortedS ys = true → ys = (allT s k).map tx
def fxPieces : List D → (D → Prop) → Prop := fun xs R => ∃ ds w k, xs = [txd ds, nat w, nat k] ∧ ds.length = w + k - 1 ∧ w ≤ 5 ∧ k ≤ 4 ∧ R (.lst ((pieces w k ds).map txd))
def fxLeast : List D → (D → Prop) → Prop := fun xs R => ∃ (ord ps : List (List Nat)), xs = [.dct (ord.map keyT) ((List.range ord.length).map nat), .lst (ps.map txd), .bl false] ∧ 0 < ps.length ∧ ps.length ≤ 5 ∧ (∀ p ∈ ps, p ∈ ord) ∧ R (nat (leastAt (ps.map fun p => ord.idxOf p)))
def fxIsOrder : List D → (D → Prop) → Prop := fun xs R => ∃ (s k : Nat) (ord : List (List Nat)), xs = [nat s, nat k, .lst (ord.map txd)] ∧ (s = 2 ∨ s = 3 ∨ s = 4) ∧ k ≤ 4 ∧ OrdOk s k ord ∧ R (.bl true)
def fxBy : List D → (D → Prop) → Prop := fun xs R => ∃ (s w k : Nat) (ord : List (List Nat)), xs = [.cls, nat s, nat w, nat k, .lst (ord.map txd), .bl false] ∧ OkG s w k ∧ s ^ (w + k - 1) ≤ 100000 ∧ OrdOk s k ord ∧ R (.rul s w k (byOrd s w k ord))
def fxTurned : List D → (D → Prop) → Prop := fun xs R => ∃ s w k tb, xs = [.rul s w k tb] ∧ OkG s w k ∧ s ^ (w + k - 1) ≤ 100000 ∧ Tab s w k tb ∧ R (.rul s w k (turnT s w k tb))
theorem pieces_len (w k : Nat) (ds : List Nat) : (pieces w k ds).length = w := by
  unfold pieces
  rw [List.length_map, List.length_range]
theorem pieces_mem {s w k : Nat} {ds : List Nat} (hl : ds.length = w + k - 1) (hd : Dig s ds) : ∀ p ∈ pieces w k ds, p.length = k ∧ Dig s p := by
  intro p hp
  obtain ⟨a, ha, rfl⟩ := List.mem_map.mp hp
  have ha := List.mem_range.mp ha
  refine ⟨by rw [List.length_take, List.length_drop]; omega, fun d hdd => hd d (List.mem_of_mem_drop (List.mem_of_mem_take hdd))⟩
theorem leastAt_lt {rs : List Nat} (h : 0 < rs.length) : leastAt rs < rs.length := by
  unfold leastAt
  cases e : rs.min? with
  | none =>
    rw [List.min?_eq_none_iff] at e
    rw [e] at h
    cases h
  | some m => exact List.idxOf_lt_length_of_mem (List.min?_mem e)
theorem leastAt_of {rs : List Nat} {m : Nat} (hm : m ∈ rs) (hy : ∀ y ∈ rs, m ≤ y) : leastAt rs = rs.idxOf m := by
  unfold leastAt
  rw [List.min?_eq_some_iff.mpr ⟨hm, hy⟩]
  rfl
theorem idx_at {α : Type} [BEq α] [LawfulBEq α] {rs : List α} {m : α} (hm : m ∈ rs) : rs[rs.idxOf m]? = some m := by
  have h := List.idxOf_lt_length_of_mem hm
  rw [List.getElem?_eq_getElem h, List.getElem_idxOf h]
theorem idx_first {α : Type} [BEq α] [LawfulBEq α] {m : α} : ∀ {rs : List α} {i : Nat}, i < rs.idxOf m → rs[i]? ≠ some m
  | [], i, h => by simp at h
  | a :: rs, i, h => by
    by_cases e : a = m
    · subst e
      rw [List.idxOf_cons_self] at h
      cases h
    · rw [List.idxOf_cons, show (a == m) = false from beq_eq_false_iff_ne.mpr e] at h
      cases i with
      | zero => exact fun z => e (Option.some.inj z)
      | succ i => exact idx_first (rs := rs) (Nat.lt_of_succ_lt_succ h)
abbrev s__pieces : Stmt := top 30
abbrev n__pieces : List Str := ["window", "w", "k", "at"]
theorem sc__pieces : FnScope n__pieces ["window", "w", "k"] (defScope s__pieces) := ⟨rfl, rfl, rfl, by decide +kernel, rfl, by decide +kernel, by decide +kernel⟩
abbrev s__least_offset : Stmt := top 31
abbrev n__least_offset : List Str := ["ranks", "pieces", "last", "places", "piece"]
theorem sc__least_offset : FnScope n__least_offset ["ranks", "pieces", "last"] (defScope s__least_offset) := ⟨rfl, rfl, rfl, by decide +kernel, rfl, by decide +kernel, by decide +kernel⟩
abbrev s__is_order : Stmt := top 28
abbrev n__is_order : List Str := ["letters", "k", "order", "piece"]
theorem sc__is_order : FnScope n__is_order ["letters", "k", "order"] (defScope s__is_order) := ⟨rfl, rfl, rfl, by decide +kernel, rfl, by decide +kernel, by decide +kernel⟩
abbrev s_Rule_by_order : Stmt := inClass (top 25) 1
abbrev n_Rule_by_order : List Str := ["cls", "letters", "w", "k", "order", "last", "ranks", "windows", "table", "rank", "piece", "window"]
theorem sc_Rule_by_order : FnScope n_Rule_by_order ["cls", "letters", "w", "k", "order", "last"] (defScope s_Rule_by_order) := ⟨rfl, rfl, rfl, by decide +kernel, rfl, by decide +kernel, by decide +kernel⟩
abbrev s_Rule_turned : Stmt := inClass (top 25) 4
abbrev n_Rule_turned : List Str := ["self", "windows", "table", "window"]
theorem sc_Rule_turned : FnScope n_Rule_turned ["self"] (defScope s_Rule_turned) := ⟨rfl, rfl, rfl, by decide +kernel, rfl, by decide +kernel, by decide +kernel⟩
section
variable {K : PySem.W.Frag} {C : Addr} {mg : Str → Option Value} {base : Heap} {w : World} {P : Program}
theorem ok_pieces {f : Addr} {fd : FuncData} (F : Fun K "_pieces" "_pieces" s__pieces f fd)
    (m_range : mg "range" = none) :
    FnOk P w K mg base CX0 1 f fd ["window", "w", "k"] (spD K C fxPieces) := by
  refine okD F sc__pieces (fun ds R h => ?_) (fun cdv A outer s₀ H E hr xs R h => ?_)
  · obtain ⟨ds, w, k, rfl, _⟩ := h
    rfl
  · obtain ⟨ds, w, k, rfl, hl, hw, hk, q⟩ := h
    refine ⟨_, (pss_one (ps_ret (pe_lc (own := [("at", 3)]) (g := gName 3) (tt := tYes) rfl sc__pieces.nd (pi_range1 (by rfl) m_range (pa_cons (pv 1) pa_nil)) (blkOk_by (own := [("at", 3)]) (N := n__pieces) (sc := defScope s__pieces) (by decide +kernel)) (fun _ _ _ _ _ => (pg_name (i := 3) sc__pieces.nd rfl (.inl rfl))) (fun _ _ _ _ _ => pts_nil) (fun _ _ _ _ _ => (pe_slice (slU K) (pv 0) (po_some (pv 3)) (po_some (pe_op (opAddU K) (pv 3) (pv 2)))))))), ?_⟩
    walk_at "rd"
    refine rd_lcM (List.range w) nat (fun a => txd ((ds.drop a).take k)) (ri_range1 ?_)
    walk_at "rd"
    refine ⟨by omega, by omega, ?_⟩
    rw [Int.toNat_natCast]
    refine ⟨rfl, by rw [List.length_range]; exact big_size (by omega), fun a ha o => ?_, ?_⟩
    · have ha := List.mem_range.mp ha
      walk_at "rd"
      refine rs_Ux a (a + k) (by omega) rfl rfl ?_
      rw [Nat.add_sub_cancel_left]
      exact ⟨rfl, rfl⟩
    · refine ⟨_, .inl rfl, ?_⟩
      unfold pieces at q
      rw [List.map_map] at q
      exact q
theorem ok_least {f : Addr} {fd : FuncData} (F : Fun K "_least_offset" "_least_offset" s__least_offset f fd)
    (m_min : mg "min" = none)
    (T : RTxt K mg C) :
    FnOk P w K mg base CX0 1 f fd ["ranks", "pieces", "last"] (spD K C fxLeast) := by
  refine okD F sc__least_offset (fun ds R h => ?_) (fun cdv A outer s₀ H E hr xs R h => ?_)
  · obtain ⟨ord, ps, rfl, _⟩ := h
    rfl
  · obtain ⟨ord, ps, rfl, h0, h5, hm, q⟩ := h
    refine ⟨_, (pss_cons (ps_setLc (i := 3) (own := [("piece", 4)]) (g := gName 4) (tt := tYes) rfl sc__least_offset.nd rfl rfl (sw_true rfl rfl rfl (by decide +kernel)) (piU K (pv 1)) (blkOk_by (own := [("piece", 4)]) (N := n__least_offset) (sc := defScope s__least_offset) (by decide +kernel)) (fun _ _ _ _ _ => (pg_name (i := 4) sc__least_offset.nd rfl (.inl rfl))) (fun _ _ _ _ _ => pts_nil) (fun _ _ _ _ _ => (pe_dget (Nat.lt_of_le_of_lt (Nat.add_le_add_left (by decide) _) hr.units) (pv 0) (pv 4) (fun _ _ => rfl))))
      (pss_cons (ps_if (pt_val (pv 2)) (pss_one ps_never) pss_nil)
      (pss_one (ps_ret (pe_bm PySem.F.plainAttrs_list PySem.F.slot_list_index PySem.F.type_list_index mt_index (pv 3) (pa_cons (pe_callB (minU K rfl) (by rfl) m_min (by decide +kernel) (pa_cons (pv 3) pa_nil)) pa_nil)))))), ?_⟩
    walk_at "rd"
    refine rd_lcM ps txd (fun p => nat (ord.idxOf p)) (ri_Ul ?_)
    walk_at "rd"
    refine ⟨rfl, big_size (by omega), fun p hp o => ?_, ?_⟩
    · have hi := List.idxOf_lt_length_of_mem (hm p hp)
      refine rd_dget (rd_val rfl ⟨_, _, rfl, rd_val rfl ?_⟩)
      refine ⟨keyT p, txd p, nat (ord.idxOf p), ord.idxOf p, rfl, fun _ _ h => h, ?_, fun j hj => ?_, ?_, rfl, rfl⟩
      · rw [List.getElem?_map, idx_at (hm p hp)]
        rfl
      · rw [List.getElem?_map]
        cases e : ord[j]? with
        | none => exact fun z => by cases z
        | some x => exact fun z => idx_first hj (by rw [e, tx_inj (Sum.inr.inj (Option.some.inj z))])
      · rw [List.getElem?_map, List.getElem?_range hi]
        rfl
    · have e : ps.map (fun p => nat (ord.idxOf p)) = (ps.map fun p => ord.idxOf p).map nat := by rw [List.map_map]; rfl
      rw [e]
      walk_at "rd"
      refine rd_index (rd_val rfl ⟨_, rfl, ?_⟩)
      walk_at "rd"
      refine rc_min (by rw [List.length_map]; exact h0) fun m hm2 hy => ?_
      refine ⟨m, _, rfl, idx_at hm2, fun i hi => idx_first hi, ?_⟩
      rw [leastAt_of hm2 hy] at q
      exact ⟨_, .inl rfl, q⟩
theorem str_ok {s : Nat} {ds : List Nat} (hs : s ≤ 4) (h : Dig s ds) : PySem.PyData.strOk (tx ds) = true := by
  show (tx ds).cps.all (fun c => decide (c < 0x110000)) = true
  rw [← Array.all_toList]
  show (cod ds).all _ = true
  rw [List.all_eq_true]
  intro c hc
  obtain ⟨d, hd, rfl⟩ := List.mem_map.mp hc
  have := h d hd
  exact decide_eq_true (show 97 + d < 0x110000 by omega)
theorem pl_txs {s : Nat} {l : List (List Nat)} (hs : s ≤ 4) (h : ∀ x ∈ l, Dig s x) : Pl 64 (.lst (l.map txd)) := by
  intro d hd
  obtain ⟨x, hx, rfl⟩ := List.mem_map.mp hd
  exact str_ok hs (h x hx)
theorem ok_is_order {f : Addr} {fd : FuncData} (F : Fun K "_is_order" "_is_order" s__is_order f fd)
    {f_texts_of f_is_sequence : Addr} {fd_texts_of fd_is_sequence : FuncData}
    (m_sorted : mg "sorted" = none)
    (m_all : mg "all" = none)
    (m_isinstance : mg "isinstance" = none)
    (m_str : mg "str" = none)
    (G_texts_of : FnOk P w K mg base CX0 1 f_texts_of fd_texts_of ["letters", "length"] (spTexts)) (k_texts_of : PySem.W.keepIn K (.ref f_texts_of) = true) (b_texts_of : Binds K fd_texts_of ["letters", "length"] []) (g_texts_of : mg "texts_of" = some (.ref f_texts_of))
    (G_is_sequence : FnOk P w K mg base CX0 1 f_is_sequence fd_is_sequence ["value"] (spSeq K)) (k_is_sequence : PySem.W.keepIn K (.ref f_is_sequence) = true) (b_is_sequence : Binds K fd_is_sequence ["value"] []) (g_is_sequence : mg "is_sequence" = some (.ref f_is_sequence)) :
    FnOk P w K mg base CX0 2 f fd ["letters", "k", "order"] (spD K C fxIsOrder) := by
  refine okD F sc__is_order (fun ds R h => ?_) (fun cdv A outer s₀ H E hr xs R h => ?_)
  · obtain ⟨s, k, ord, rfl, _⟩ := h
    rfl
  · obtain ⟨s, k, ord, rfl, hs, hk, ⟨h1, h2, h3, h4, h5⟩, q⟩ := h
    have hs4 : s ≤ 4 := by omega
    refine ⟨_, (pss_cons (ps_if (PW.pt (pw_or (pt_not (pt_val (pe_call G_is_sequence (hr.mono (by decide)) (by rfl) g_is_sequence k_is_sequence b_is_sequence .nil pass0 (pa_cons (pv 2) pa_nil)))) (pw_or1 (pt_not (pt_val (pe_callB (allU K rfl) (by rfl) m_all (by decide +kernel) (pa_cons (pe_lc (own := [("piece", 3)]) (g := gName 3) (tt := tYes) rfl sc__is_order.nd (piU K (pv 2)) (blkOk_by (own := [("piece", 3)]) (N := n__is_order) (sc := defScope s__is_order) (by decide +kernel)) (fun _ _ _ _ _ => (pg_name (i := 3) sc__is_order.nd rfl (.inl rfl))) (fun _ _ _ _ _ => pts_nil) (fun _ _ _ _ _ => (pe_callB (isiU K) (by rfl) m_isinstance (by decide +kernel) (pa_cons (pv 3) (pa_cons (pe_bltn (v := .ty "str") (by rfl) m_str (by decide +kernel) rfl) pa_nil))))) pa_nil))))))) (pss_one (ps_ret pe_bl)) pss_nil)
      (pss_one (ps_ret (pe_cmpR (opEqU K hr.units) (pe_callB (sortSU K) (by rfl) m_sorted (by decide +kernel) (pa_cons (pv 2) pa_nil)) (pe_call G_texts_of (hr.mono (by decide)) (by rfl) g_texts_of k_texts_of b_texts_of .nil pass0 (pa_cons (pv 0) (pa_cons (pv 1) pa_nil))) (nomark _))))), ?_⟩
    walk_at "rd"
    refine rc_seq ?_
    walk_at "rd"
    refine rd_lcM ord txd (fun _ => .bl true) (ri_Ul ?_)
    walk_at "rd"
    refine ⟨rfl, Nat.lt_trans h1 (by decide), fun p hp o => ?_, ?_⟩
    · refine rd_isi (rd_val rfl ?_)
      exact ⟨_, true, rfl, .inl ⟨_, rfl, by decide +kernel⟩, rfl, rfl⟩
    · have e : ord.map (fun _ => D.bl true) = (ord.map fun _ => true).map D.bl := by rw [List.map_map]; rfl
      have e2 : (ord.map fun _ => true).all id = true := by
        rw [List.all_eq_true]
        intro b hb
        obtain ⟨_, _, rfl⟩ := List.mem_map.mp hb
        rfl
      rw [e]
      walk_at "rd"
      refine rc_all ?_
      rw [e2]
      walk_at "rd"
      refine rc_sortS h1 fun ys hp hy => ?_
      have ey := h5 ys hp hy
      subst ey
      walk_at "rd"
      refine rc_texts hs (by omega) (by omega) ?_
      have e3 : ((allT s k).map tx).map D.str = (allT s k).map txd := by rw [List.map_map]; rfl
      rw [e3]
      refine r2_eqUs (pl_txs hs4 fun x hx => ((allT_mem s _ x).mp hx).2) rfl ?_
      exact ⟨_, .inl rfl, q⟩
theorem ok_by {f : Addr} {fd : FuncData} (F : FunD K "by_order" "Rule.by_order" (defArgs s_Rule_by_order) (defBody s_Rule_by_order) (defScope s_Rule_by_order) [V.bl false] [] f fd)
    {f__least_offset f__pieces f_texts_of f__is_order f__check_sizes : Addr} {fd__least_offset fd__pieces fd_texts_of fd__is_order fd__check_sizes : FuncData}
    (m_enumerate : mg "enumerate" = none)
    (T : RTxt K mg C)
    {f_I : Addr} {fd_I : FuncData} (M : Mk K C f_I) (G_I : FnOk P w K mg base CX0 4 f_I fd_I ["self", "letters", "w", "k", "table"] (spInit C)) (b_I : Binds K fd_I ["self", "letters", "w", "k", "table"] [])
    (G__least_offset : FnOk P w K mg base CX0 1 f__least_offset fd__least_offset ["ranks", "pieces", "last"] (spD K C fxLeast)) (k__least_offset : PySem.W.keepIn K (.ref f__least_offset) = true) (b__least_offset : Binds K fd__least_offset ["ranks", "pieces", "last"] []) (g__least_offset : mg "_least_offset" = some (.ref f__least_offset))
    (G__pieces : FnOk P w K mg base CX0 1 f__pieces fd__pieces ["window", "w", "k"] (spD K C fxPieces)) (k__pieces : PySem.W.keepIn K (.ref f__pieces) = true) (b__pieces : Binds K fd__pieces ["window", "w", "k"] []) (g__pieces : mg "_pieces" = some (.ref f__pieces))
    (G_texts_of : FnOk P w K mg base CX0 1 f_texts_of fd_texts_of ["letters", "length"] (spTexts)) (k_texts_of : PySem.W.keepIn K (.ref f_texts_of) = true) (b_texts_of : Binds K fd_texts_of ["letters", "length"] []) (g_texts_of : mg "texts_of" = some (.ref f_texts_of))
    (G__is_order : FnOk P w K mg base CX0 2 f__is_order fd__is_order ["letters", "k", "order"] (spD K C fxIsOrder)) (k__is_order : PySem.W.keepIn K (.ref f__is_order) = true) (b__is_order : Binds K fd__is_order ["letters", "k", "order"] []) (g__is_order : mg "_is_order" = some (.ref f__is_order))
    (G__check_sizes : FnOk P w K mg base CX0 3 f__check_sizes fd__check_sizes ["letters", "w", "k"] (spSizes)) (k__check_sizes : PySem.W.keepIn K (.ref f__check_sizes) = true) (b__check_sizes : Binds K fd__check_sizes ["letters", "w", "k"] []) (g__check_sizes : mg "_check_sizes" = some (.ref f__check_sizes)) :
    FnOk P w K mg base CX0 6 f fd ["cls", "letters", "w", "k", "order", "last"] (spD K C fxBy) := by
  refine okDD F sc_Rule_by_order (fun ds R h => ?_) (fun cdv A outer s₀ H E hr xs R h => ?_)
  · obtain ⟨s, w, k, ord, rfl, _⟩ := h
    rfl
  · obtain ⟨s, w, k, ord, rfl, og, hp, oo, q⟩ := h
    obtain ⟨g1, g2, g3, g4, g5⟩ := id og
    obtain ⟨h1, h2, h3, h4, h5⟩ := id oo
    refine ⟨_, (pss_cons (ps_expr (pe_call G__check_sizes (hr.mono (by decide)) (by rfl) g__check_sizes k__check_sizes b__check_sizes .nil pass0 (pa_cons (pv 1) (pa_cons (pv 2) (pa_cons (pv 3) pa_nil)))))
      (pss_cons (ps_if (pt_not (pt_val (pe_call G__is_order (hr.mono (by decide)) (by rfl) g__is_order k__is_order b__is_order .nil pass0 (pa_cons (pv 1) (pa_cons (pv 3) (pa_cons (pv 4) pa_nil)))))) (pss_one ps_never) pss_nil)
      (pss_cons (ps_set (i := 6) sc_Rule_by_order.nd rfl (.inr rfl) (pe_dc (own := [("rank", 9), ("piece", 10)]) (g := gTup K 2 (gCons (gName 9) (gCons (gName 10) gNil))) (tt := tYes) rfl sc_Rule_by_order.nd (pi_enum (by rfl) m_enumerate (pa_cons (pv 4) pa_nil)) (blkOk_by (own := [("rank", 9), ("piece", 10)]) (N := n_Rule_by_order) (sc := defScope s_Rule_by_order) (by decide +kernel)) (fun _ _ _ _ _ => (pg_tup rfl (pgs_cons (pg_name (i := 9) sc_Rule_by_order.nd rfl (.inl rfl)) (pgs_cons (pg_name (i := 10) sc_Rule_by_order.nd rfl (.inl rfl)) pgs_nil)))) (fun _ _ _ _ _ => pts_nil) (fun _ _ _ _ _ => (pv 10)) (fun _ _ _ _ _ => (pv 9))))
      (pss_cons (ps_set (i := 7) sc_Rule_by_order.nd rfl (.inl rfl) (pe_call G_texts_of (hr.mono (by decide)) (by rfl) g_texts_of k_texts_of b_texts_of .nil pass0 (pa_cons (pv 1) (pa_cons (pe_op op_sub (pe_op (opAddU K) (pv 2) (pv 3)) pe_int) pa_nil))))
      (pss_cons (ps_setLc (i := 8) (own := [("window", 11)]) (g := gName 11) (tt := tYes) rfl sc_Rule_by_order.nd rfl rfl (sw_true rfl rfl rfl (by decide +kernel)) (piU K (pv 7)) (blkOk_by (own := [("window", 11)]) (N := n_Rule_by_order) (sc := defScope s_Rule_by_order) (by decide +kernel)) (fun _ _ _ _ _ => (pg_name (i := 11) sc_Rule_by_order.nd rfl (.inl rfl))) (fun _ _ _ _ _ => pts_nil) (fun _ _ _ _ _ => (pe_call G__least_offset (hr.mono (by decide)) (by rfl) g__least_offset k__least_offset b__least_offset .nil pass0 (pa_cons (pv 6) (pa_cons (pe_call G__pieces (hr.mono (by decide)) (by rfl) g__pieces k__pieces b__pieces .nil pass0 (pa_cons (pv 11) (pa_cons (pv 2) (pa_cons (pv 3) pa_nil)))) (pa_cons (pv 5) pa_nil))))))
      (pss_one (ps_ret (pe_makeL (i := 0) M G_I (hr.mono (by decide)) rfl (.inl rfl) b_I pass0 (pa_cons (pv 1) (pa_cons (pv 2) (pa_cons (pv 3) (pa_cons (pv 8) pa_nil)))))))))))), ?_⟩
    walk_at "rd"
    refine rc_sizes og ?_
    walk_at "rd"
    refine rc_D (ds := [nat s, nat k, .lst (ord.map txd)]) ⟨s, k, ord, rfl, g1, g5, oo, ?_⟩
    walk_at "rd"
    refine rd_dcE (i := 10) (j := 9) (by decide) ord ?_
    walk_at "rd"
    refine ⟨rfl, h3, Nat.lt_trans h1 (by decide), Nat.le_of_ble_eq_true rfl, Nat.le_of_ble_eq_true rfl, ?_⟩
    walk_at "rd"
    refine rc_textsI (n := w + k - 1) (by omega) g1 (by omega) hp ?_
    walk_at "rd"
    refine rd_lcM (allT s (w + k - 1)) txd (fun ds => nat (leastAt ((pieces w k ds).map fun p => ord.idxOf p))) (ri_Ul ?_)
    walk_at "rd"
    refine ⟨rfl, ?_, fun ds hds o => ?_, ?_⟩
    · rw [allT_len]
      exact Nat.lt_of_le_of_lt hp (by decide)
    · obtain ⟨dl, dd⟩ := (allT_mem s _ ds).mp hds
      walk_at "rd"
      refine rc_D (ds := [txd ds, nat w, nat k]) ⟨ds, w, k, rfl, dl, g3, g5, ?_⟩
      walk_at "rd"
      refine rc_D (ds := [.dct (ord.map keyT) ((List.range ord.length).map nat), .lst ((pieces w k ds).map txd), .bl false]) ⟨ord, pieces w k ds, rfl, by rw [pieces_len]; omega, by rw [pieces_len]; omega, fun p hp => ?_, rfl, rfl⟩
      obtain ⟨h6, h7⟩ := pieces_mem dl dd p hp
      exact h4 p h6 h7
    · have e : (allT s (w + k - 1)).map (fun ds => nat (leastAt ((pieces w k ds).map fun p => ord.idxOf p))) = (byOrd s w k ord).map nat := by
        unfold byOrd
        rw [List.map_map]
        rfl
      rw [e]
      have bl : (byOrd s w k ord).length = s ^ (w + k - 1) := by
        unfold byOrd
        rw [List.length_map, allT_len]
      walk_at "rd"
      refine rd_makeL rfl ?_
      walk_at "rd"
      refine ⟨og, ⟨bl, fun t ht => ?_⟩, by rw [bl]; exact hp, _, .inl rfl, q⟩
      unfold byOrd at ht
      obtain ⟨ds, _, rfl⟩ := List.mem_map.mp ht
      have := leastAt_lt (rs := (pieces w k ds).map fun p => ord.idxOf p) (by rw [List.length_map, pieces_len]; omega)
      rw [List.length_map, pieces_len] at this
      exact this
theorem ok_turned {f : Addr} {fd : FuncData} (F : Fun K "turned" "Rule.turned" s_Rule_turned f fd)
    {f_Rule_offset f_texts_of : Addr} {fd_Rule_offset fd_texts_of : FuncData}
    (T : RTxt K mg C)
    {f_I : Addr} {fd_I : FuncData} (M : Mk K C f_I) (G_I : FnOk P w K mg base CX0 4 f_I fd_I ["self", "letters", "w", "k", "table"] (spInit C)) (b_I : Binds K fd_I ["self", "letters", "w", "k", "table"] [])
    (G_Rule_offset : FnOk P w K mg base CX0 2 f_Rule_offset fd_Rule_offset ["self", "window"] (spOffset C)) (mt_offset : Meth K C "offset" f_Rule_offset) (b_Rule_offset : Binds K fd_Rule_offset ["self", "window"] [])
    (G_texts_of : FnOk P w K mg base CX0 1 f_texts_of fd_texts_of ["letters", "length"] (spTexts)) (k_texts_of : PySem.W.keepIn K (.ref f_texts_of) = true) (b_texts_of : Binds K fd_texts_of ["letters", "length"] []) (g_texts_of : mg "texts_of" = some (.ref f_texts_of)) :
    FnOk P w K mg base CX0 6 f fd ["self"] (spD K C fxTurned) := by
  refine okD F sc_Rule_turned (fun ds R h => ?_) (fun cdv A outer s₀ H E hr xs R h => ?_)
  · obtain ⟨s, w, k, tb, rfl, _⟩ := h
    rfl
  · obtain ⟨s, w, k, tb, rfl, og, hp, ht, q⟩ := h
    obtain ⟨g1, g2, g3, g4, g5⟩ := id og
    refine ⟨_, (pss_cons (ps_set (i := 1) sc_Rule_turned.nd rfl (.inl rfl) (pe_call G_texts_of (hr.mono (by decide)) (by rfl) g_texts_of k_texts_of b_texts_of .nil pass0 (pa_cons (pe_fldK K (pv 0) rfl) (pa_cons (pe_op op_sub (pe_op (opAddU K) (pe_fldK K (pv 0) rfl) (pe_fldK K (pv 0) rfl)) pe_int) pa_nil))))
      (pss_cons (ps_setLc (i := 2) (own := [("window", 3)]) (g := gName 3) (tt := tYes) rfl sc_Rule_turned.nd rfl rfl (sw_true rfl rfl rfl (by decide +kernel)) (piU K (pv 1)) (blkOk_by (own := [("window", 3)]) (N := n_Rule_turned) (sc := defScope s_Rule_turned) (by decide +kernel)) (fun _ _ _ _ _ => (pg_name (i := 3) sc_Rule_turned.nd rfl (.inl rfl))) (fun _ _ _ _ _ => pts_nil) (fun _ _ _ _ _ => (pe_op op_sub (pe_op op_sub (pe_fldK K (pv 0) rfl) pe_int) (pe_meth (pv 0) T.cl mt_offset G_Rule_offset (hr.mono (by decide)) b_Rule_offset .nil pass0 (pa_cons (pe_revS (pv 3)) pa_nil)))))
      (pss_one (ps_ret (pe_make M G_I (hr.mono (by decide)) (by rfl) T.mgC b_I .nil pass0 (pa_cons (pe_fldK K (pv 0) rfl) (pa_cons (pe_fldK K (pv 0) rfl) (pa_cons (pe_fldK K (pv 0) rfl) (pa_cons (pv 2) pa_nil))))))))), ?_⟩
    walk_at "rd"
    refine rc_textsI (n := w + k - 1) (by omega) g1 (by omega) hp ?_
    walk_at "rd"
    refine rd_lcM (allT s (w + k - 1)) txd (fun ds => nat (w - 1 - tb.getD (num s ds.reverse) 0)) (ri_Ul ?_)
    walk_at "rd"
    refine ⟨rfl, ?_, fun ds hds o => ?_, ?_⟩
    · rw [allT_len]
      exact Nat.lt_of_le_of_lt hp (by decide)
    · obtain ⟨dl, dd⟩ := (allT_mem s _ ds).mp hds
      walk_at "rd"
      refine rd_meth (by decide +kernel) (by decide +kernel) (by decide +kernel) (by decide +kernel) ?_
      walk_at "rd"
      refine rd_revS (rd_val rfl ⟨ds, rfl, by omega, ?_⟩)
      walk_at "rd"
      have dr : Dig s ds.reverse := fun d hd => dd d (List.mem_reverse.mp hd)
      have lr : ds.reverse.length = w + k - 1 := by rw [List.length_reverse]; exact dl
      have hn : num s ds.reverse < tb.length := by rw [ht.1]; exact num_lt _ ds.reverse lr dr
      have hv : tb.getD (num s ds.reverse) 0 < w := by
        rw [List.getD_eq_getElem?_getD, List.getElem?_eq_getElem hn]
        exact ht.2 _ (List.getElem_mem hn)
      refine rc_offset og ht.1 lr dr ?_
      walk_at "rd"
      refine ⟨?_, rfl⟩
      show Sl.val (D.int ((w : Int) - 1 - ((tb.getD (num s ds.reverse) 0 : Nat) : Int))) = Sl.val (D.int ((w - 1 - tb.getD (num s ds.reverse) 0 : Nat) : Int))
      rw [show (w : Int) - 1 - ((tb.getD (num s ds.reverse) 0 : Nat) : Int) = ((w - 1 - tb.getD (num s ds.reverse) 0 : Nat) : Int) by omega]
    · have e : (allT s (w + k - 1)).map (fun ds => nat (w - 1 - tb.getD (num s ds.reverse) 0)) = (turnT s w k tb).map nat := by
        unfold turnT
        rw [List.map_map]
        rfl
      rw [e]
      have bl : (turnT s w k tb).length = s ^ (w + k - 1) := by
        unfold turnT
        rw [List.length_map, allT_len]
      walk_at "rd"
      refine rd_make ?_
      walk_at "rd"
      refine ⟨og, ⟨bl, fun t ht => ?_⟩, by rw [bl]; exact hp, _, .inl rfl, q⟩
      unfold turnT at ht
      obtain ⟨ds, _, rfl⟩ := List.mem_map.mp ht
      show w - 1 - _ < w
      omega
end
end DL

set_option Elab.async false
set_option linter.all false
set_option maxRecDepth 100000
set_option maxHeartbeats 1200000
namespace DL
open PySem PySem.Spec PyProof.Rows L2 WP
/-! ### moved, most_moved, greatest_moved -/
def fxMoved : List D → (D → Prop) → Prop := fun xs R => ∃ s w k tb ds a c, xs = [.rul s w k tb, txd ds, nat a, txd [c]] ∧ OkG s w k ∧ Tab s w k tb ∧ ds.length ≤ 1000 ∧ Dig s ds ∧ a < ds.length ∧ c < s ∧
  R (.tup [.tup ((gone s w k tb ds a c).map nat), .tup ((come s w k tb ds a c).map nat)])
def fxMost : List D → (D → Prop) → Prop := fun xs R => ∃ s w k tb, xs = [.rul s w k tb] ∧ OkG s w k ∧ Tab s w k tb ∧ s ^ (2 * (2 * w + k - 3) + 1) ≤ 100000 ∧
  ∀ t c m, t.length = 2 * (2 * w + k - 3) + 1 → Dig s t → c < s → m = mv s w k tb t (2 * w + k - 3) c → Utmost s w k tb m → R (.tup [txd t, txd [c], nat m])
def fxGreatest : List D → (D → Prop) → Prop := fun xs R => ∃ s w k tb, xs = [.rul s w k tb] ∧ OkG s w k ∧ Tab s w k tb ∧ s ^ (2 * (2 * w + k - 3) + 1) ≤ 100000 ∧ ∀ m, Utmost s w k tb m → R (nat m)
abbrev s_moved : Stmt := top 21
abbrev n_moved : List Str := ["rule", "text", "at", "letter", "ahead", "behind", "gone", "come", "place"]
theorem sc_moved : FnScope n_moved ["rule", "text", "at", "letter"] (defScope s_moved) := ⟨rfl, rfl, rfl, by decide +kernel, rfl, by decide +kernel, by decide +kernel⟩
abbrev s_most_moved : Stmt := top 23
abbrev n_most_moved : List Str := ["rule", "amid", "most", "text", "letter", "gone", "come"]
theorem sc_most_moved : FnScope n_most_moved ["rule"] (defScope s_most_moved) := ⟨rfl, rfl, rfl, by decide +kernel, rfl, by decide +kernel, by decide +kernel⟩
abbrev s_greatest_moved : Stmt := top 22
abbrev n_greatest_moved : List Str := ["rule"]
theorem sc_greatest_moved : FnScope n_greatest_moved ["rule"] (defScope s_greatest_moved) := ⟨rfl, rfl, rfl, by decide +kernel, rfl, by decide +kernel, by decide +kernel⟩
section
variable {K : PySem.W.Frag} {C : Addr} {mg : Str → Option Value} {base : Heap} {w : World} {P : Program}
theorem ok_moved {f : Addr} {fd : FuncData} (F : Fun K "moved" "moved" s_moved f fd)
    {f_picks : Addr} {fd_picks : FuncData}
    (m_tuple : mg "tuple" = none)
    (G_picks : FnOk P w K mg base CX0 3 f_picks fd_picks ["rule", "text"] (spPicksV C)) (k_picks : PySem.W.keepIn K (.ref f_picks) = true) (b_picks : Binds K fd_picks ["rule", "text"] []) (g_picks : mg "picks" = some (.ref f_picks)) :
    FnOk P w K mg base CX0 5 f fd ["rule", "text", "at", "letter"] (spD K C fxMoved) := by
  refine okD F sc_moved (fun ds R h => ?_) (fun cdv A outer s₀ H E hr xs R h => ?_)
  · obtain ⟨s, w, k, tb, ds, a, c, rfl, _⟩ := h
    rfl
  · obtain ⟨s, w, k, tb, ds, a, c, rfl, og, ht, hl, hd, ha, hc, q⟩ := h
    refine ⟨_, (pss_cons (ps_set (i := 4) sc_moved.nd rfl (.inr rfl) (pe_call G_picks (hr.mono (by decide)) (by rfl) g_picks k_picks b_picks .nil pass0 (pa_cons (pv 0) (pa_cons (pv 1) pa_nil))))
      (pss_cons (ps_set (i := 5) sc_moved.nd rfl (.inr rfl) (pe_call G_picks (hr.mono (by decide)) (by rfl) g_picks k_picks b_picks .nil pass0 (pa_cons (pv 0) (pa_cons (pe_op (opAddU K) (pe_op (opAddU K) (pe_slice (slU K) (pv 1) po_none (po_some (pv 2))) (pv 3)) (pe_slice (slU K) (pv 1) (po_some (pe_op (opAddU K) (pv 2) pe_int)) po_none)) pa_nil))))
      (pss_cons (ps_set (i := 6) sc_moved.nd rfl (.inl rfl) (pe_callTy (tupleU K) (by rfl) m_tuple (by decide +kernel) (pa_cons (pe_lc (own := [("place", 8)]) (g := gName 8) rfl sc_moved.nd (piU K (pv 4)) (blkOk_by (own := [("place", 8)]) (N := n_moved) (sc := defScope s_moved) (by decide +kernel)) (fun _ _ _ _ _ => (pg_name (i := 8) sc_moved.nd rfl (.inl rfl))) (fun _ _ _ _ _ => (pts_one (pt_cmpR (opNotInU K) (pv 8) (pv 5) (by rfl)))) (fun _ _ _ _ _ => (pv 8))) pa_nil)))
      (pss_cons (ps_set (i := 7) sc_moved.nd rfl (.inl rfl) (pe_callTy (tupleU K) (by rfl) m_tuple (by decide +kernel) (pa_cons (pe_lc (own := [("place", 8)]) (g := gName 8) rfl sc_moved.nd (piU K (pv 5)) (blkOk_by (own := [("place", 8)]) (N := n_moved) (sc := defScope s_moved) (by decide +kernel)) (fun _ _ _ _ _ => (pg_name (i := 8) sc_moved.nd rfl (.inl rfl))) (fun _ _ _ _ _ => (pts_one (pt_cmpR (opNotInU K) (pv 8) (pv 4) (by rfl)))) (fun _ _ _ _ _ => (pv 8))) pa_nil)))
      (pss_one (ps_ret (pe_tup (pa_cons (pv 6) (pa_cons (pv 7) pa_nil))))))))), ?_⟩
    have l2 := chg_len (c := c) ha
    walk_at "rd"
    refine rc_picksN og ht hl hd ?_
    walk_at "rd"
    refine rs_Uxt a (by omega) rfl ?_
    walk_at "rd"
    refine rs_Uxf (a + 1) (by omega) rfl ?_
    walk_at "rd"
    refine rc_picksN og ht (by show (chg ds a c).length ≤ 1000; omega) (chg_dig hd hc) ?_
    walk_at "rd"
    refine rd_lcA (pks s w k tb ds) nat (fun z => !decide (z ∈ pks s w k tb (chg ds a c))) nat (ri_Ut ?_)
    walk_at "rd"
    refine ⟨rfl, ?_, fun x hx o => ?_, ?_⟩
    · exact Nat.lt_of_le_of_lt pks_len (big_size (by omega))
    · walk_at "rd"
      refine ⟨rfl, rfl, fun _ => ?_⟩
      walk_at "rd"
      exact ⟨rfl, rfl⟩
    walk_at "rd"
    refine rd_lcA (pks s w k tb (chg ds a c)) nat (fun z => !decide (z ∈ pks s w k tb ds)) nat (ri_Ut ?_)
    walk_at "rd"
    refine ⟨rfl, ?_, fun x hx o => ?_, ?_⟩
    · exact Nat.lt_of_le_of_lt pks_len (big_size (by omega))
    · walk_at "rd"
      refine ⟨rfl, rfl, fun _ => ?_⟩
      walk_at "rd"
      exact ⟨rfl, rfl⟩
    walk_at "rd"
    · exact ⟨_, .inl rfl, q⟩
    all_goals walk_at "lens"
/-- the best one so far -/
def BestS (s w k : Nat) (tb : List Nat) (i j : Nat) (m : D) : Prop := (i = 0 ∧ j = 0 ∧ m = .non) ∨ ∃ t c n, m = .tup [txd t, txd [c], nat n] ∧ t.length = 2 * (2 * w + k - 3) + 1 ∧ Dig s t ∧ c < s ∧ n = mv s w k tb t (2 * w + k - 3) c ∧
  ∀ i' t' c', (allT s (2 * (2 * w + k - 3) + 1))[i']? = some t' → c' < s → (i' < i ∨ (i' = i ∧ c' < j)) → mv s w k tb t' (2 * w + k - 3) c' ≤ n
theorem ok_most {f : Addr} {fd : FuncData} (F : Fun K "most_moved" "most_moved" s_most_moved f fd)
    {f_texts_of f_moved : Addr} {fd_texts_of fd_moved : FuncData}
    (m_len : mg "len" = none)
    (T : RTxt K mg C)
    (gA : ∃ u, mg "ALPHABET" = some u ∧ RelV (.str "abcd") u)
    (G_texts_of : FnOk P w K mg base CX0 1 f_texts_of fd_texts_of ["letters", "length"] (spTexts)) (k_texts_of : PySem.W.keepIn K (.ref f_texts_of) = true) (b_texts_of : Binds K fd_texts_of ["letters", "length"] []) (g_texts_of : mg "texts_of" = some (.ref f_texts_of))
    (G_moved : FnOk P w K mg base CX0 5 f_moved fd_moved ["rule", "text", "at", "letter"] (spD K C fxMoved)) (k_moved : PySem.W.keepIn K (.ref f_moved) = true) (b_moved : Binds K fd_moved ["rule", "text", "at", "letter"] []) (g_moved : mg "moved" = some (.ref f_moved)) :
    FnOk P w K mg base CX0 6 f fd ["rule"] (spD K C fxMost) := by
  refine okD F sc_most_moved (fun ds R h => ?_) (fun cdv A outer s₀ H E hr xs R h => ?_)
  · obtain ⟨s, w, k, tb, rfl, _⟩ := h
    rfl
  · obtain ⟨s, w, k, tb, rfl, og, ht, hp, q⟩ := h
    obtain ⟨h1, h2, h3, h4, h5⟩ := id og
    have g1 : s ^ (2 * (2 * w + k - 3) + 1) ≤ 100000 := hp
    have lN : 2 * (2 * w + k - 3) + 1 ≤ 100 := by omega
    refine ⟨_, (pss_cons (ps_set (i := 1) sc_most_moved.nd rfl (.inl rfl) (pe_op op_sub (pe_op (opAddU K) (pe_op (opMulU K) pe_int (pe_fldK K (pv 0) rfl)) (pe_fldK K (pv 0) rfl)) pe_int))
      (pss_cons (ps_set (i := 2) sc_most_moved.nd rfl (.inl rfl) pe_non)
      (pss_cons (ps_for PassesOwn.never rfl (piU K (pe_call G_texts_of (hr.mono (by decide)) (by rfl) g_texts_of k_texts_of b_texts_of .nil pass0 (pa_cons (pe_fldK K (pv 0) rfl) (pa_cons (pe_op (opAddU K) (pe_op (opMulU K) pe_int (pv 1)) pe_int) pa_nil)))) (pg_name (i := 3) sc_most_moved.nd rfl (.inl rfl)) (pss_one (ps_for PassesOwn.never rfl (piU K (pe_slice (slU K) (C8.pe_gc (by rfl) gA) po_none (po_some (pe_fldK K (pv 0) rfl)))) (pg_name (i := 4) sc_most_moved.nd rfl (.inl rfl)) (pss_cons (ps_asg (pe_call G_moved (hr.mono (by decide)) (by rfl) g_moved k_moved b_moved .nil pass0 (pa_cons (pv 0) (pa_cons (pv 3) (pa_cons (pv 1) (pa_cons (pv 4) pa_nil))))) (pg_tup rfl (pgs_cons (pg_name (i := 5) sc_most_moved.nd rfl (.inl rfl)) (pgs_cons (pg_name (i := 6) sc_most_moved.nd rfl (.inl rfl)) pgs_nil))))
      (pss_one (ps_if (PW.pt (pw_or (pt_cmpR op_isN (pv 2) pe_non (nomark _)) (pw_or1 (pt_cmpR op_gt (pe_op (opAddU K) (pe_callB (lenU K) (by rfl) m_len (by decide +kernel) (pa_cons (pv 5) pa_nil)) (pe_callB (lenU K) (by rfl) m_len (by decide +kernel) (pa_cons (pv 6) pa_nil))) (pe_ix (ixU K) (pv 2) pe_int (fun _ _ => rfl)) (nomark _))))) (pss_one (ps_set (i := 2) sc_most_moved.nd rfl (.inl rfl) (pe_tup (pa_cons (pv 3) (pa_cons (pv 4) (pa_cons (pe_op (opAddU K) (pe_callB (lenU K) (by rfl) m_len (by decide +kernel) (pa_cons (pv 5) pa_nil)) (pe_callB (lenU K) (by rfl) m_len (by decide +kernel) (pa_cons (pv 6) pa_nil))) pa_nil)))))) pss_nil))))))
      (pss_one (ps_ret (pv 2)))))), ?_⟩
    walk_at "rd"
    rw [show (2 : Int) * (w : Int) + (k : Int) - 3 = ((2 * w + k - 3 : Nat) : Int) by omega]
    generalize hA : 2 * w + k - 3 = A at *
    walk_at "rd"
    refine rd_forL (allT s (2 * A + 1)) txd (fun i S2 => ∃ m z3 z4 z5 z6, S2 = ⟨[.val (.rul s w k tb), .val (nat A), .val m, z3, z4, z5, z6], []⟩ ∧ BestS s w k tb i 0 m) (ri_Ul ?_)
    walk_at "rd"
    refine rc_textsI (n := 2 * A + 1) (by omega) h1 lN hp ?_
    refine ⟨_, rfl, rfl, Nat.zero_le _, ⟨.non, .any, .any, .any, .any, rfl, .inl ⟨rfl, rfl, rfl⟩⟩, ?_, ?_⟩
    · rintro i t S2 hti _ ⟨m, z3, z4, z5, z6, rfl, hB⟩
      obtain ⟨tl, td⟩ := (allT_mem s _ t).mp (List.mem_of_getElem? hti)
      refine rd_forL (List.range s) (fun d => txd [d]) (fun j S2 => ∃ m z4 z5 z6, S2 = ⟨[.val (.rul s w k tb), .val (nat A), .val m, .val (txd t), z4, z5, z6], []⟩ ∧ BestS s w k tb i j m) (ri_Us ?_)
      walk_at "rd"
      refine rs_abc h1 ?_
      refine ⟨_, rfl, signs_tx _, Nat.le_refl _, ⟨m, z4, z5, z6, rfl, hB⟩, ?_, ?_⟩
      · rintro j c S2 hcj _ ⟨m, z4, z5, z6, rfl, hB⟩
        obtain ⟨rfl, hc⟩ := range_get hcj
        walk_at "rd"
        refine rd_asgT2 ?_
        walk_at "rd"
        refine rc_D (ds := [.rul s w k tb, txd t, nat A, txd [c]]) ⟨s, w, k, tb, t, A, c, rfl, og, ht, by omega, td, by omega, hc, ?_⟩
        refine ⟨_, _, rfl, ?_⟩
        have em : (((gone s w k tb t A c).map nat).length : Int) + (((come s w k tb t A c).map nat).length : Int) = ((mv s w k tb t A c : Nat) : Int) := by
          rw [List.length_map, List.length_map]
          rfl
        have new : ∀ n, BestS s w k tb i c n → (∀ u d v, n = .tup [txd u, txd [d], nat v] → v ≤ mv s w k tb t A c) → BestS s w k tb i (c + 1) (.tup [txd t, txd [c], nat (mv s w k tb t A c)]) := fun n hB hn => by
          refine .inr ⟨t, c, mv s w k tb t A c, rfl, by rw [hA]; exact tl, td, hc, by rw [hA], fun i' t' c' hi' hc' hh => ?_⟩
          by_cases e : i' = i ∧ c' = c
          · obtain ⟨rfl, rfl⟩ := e
            rw [hA] at hi' ⊢
            rw [hti] at hi'
            cases hi'
            exact Nat.le_refl _
          · rcases hB with ⟨rfl, rfl, rfl⟩ | ⟨u, d, n, rfl, _, _, _, _, hm⟩
            · omega
            · exact Nat.le_trans (hm i' t' c' hi' hc' (by omega)) (hn u d n rfl)
        rcases hB with ⟨rfl, rfl, rfl⟩ | ⟨u, d, n, rfl, ul, ud, hd, hn, hm⟩
        · walk_at "rd"
          refine r2_isN (fun _ _ => non_non) ?_
          walk_at "rd"
          rw [em]
          exact ⟨_, [], [], rfl, by walk_at "wk", rfl, _, .any, .any, .any, rfl, new .non (.inl ⟨rfl, rfl, rfl⟩) fun _ _ _ e => by cases e⟩
        · walk_at "rd"
          refine r2_isN (fun _ _ => non_tup) ?_
          walk_at "rd"
          rw [em]
          refine ite2 (fun e => ?_) (fun e => ?_)
          · have e3 : n < mv s w k tb t A c := Int.ofNat_lt.mp (of_decide_eq_true e)
            walk_at "rd"
            rw [em]
            exact ⟨_, [], [], rfl, by walk_at "wk", rfl, _, .any, .any, .any, rfl, new _ (.inr ⟨u, d, n, rfl, ul, ud, hd, hn, hm⟩) fun u' d' v e2 => by
              have e4 := Int.ofNat.inj (D.int.inj (List.cons.inj (List.cons.inj (List.cons.inj (D.tup.inj e2)).2).2).1)
              omega⟩
          · have e3 : ¬ n < mv s w k tb t A c := fun z => e (decide_eq_true (Int.ofNat_lt.mpr z))
            walk_at "rd"
            refine ⟨_, [], [], rfl, by walk_at "wk", rfl, _, .any, .any, .any, rfl, .inr ⟨u, d, n, rfl, ul, ud, hd, hn, fun i' t' c' hi' hc' hh => ?_⟩⟩
            by_cases ee : i' = i ∧ c' = c
            · obtain ⟨rfl, rfl⟩ := ee
              rw [hA] at hi' ⊢
              rw [hti] at hi'
              cases hi'
              omega
            · exact hm i' t' c' hi' hc' (by omega)
      · rintro S2 _ ⟨m, z4, z5, z6, rfl, hB⟩
        refine ⟨_, [], [], rfl, by walk_at "wk", rfl, m, .any, .any, .any, .any, rfl, ?_⟩
        rcases hB with ⟨_, h0, _⟩ | ⟨u, d, n, rfl, ul, ud, hd, hn, hm⟩
        · rw [List.length_range] at h0
          omega
        · refine .inr ⟨u, d, n, rfl, ul, ud, hd, hn, fun i' t' c' hi' hc' hh => hm i' t' c' hi' hc' ?_⟩
          rw [List.length_range]
          omega
    · rintro S2 _ ⟨m, z3, z4, z5, z6, rfl, hB⟩
      walk_at "rd"
      rcases hB with ⟨h0, _⟩ | ⟨u, d, n, rfl, ul, ud, hd, hn, hm⟩
      · rw [allT_len] at h0
        have := Nat.pow_pos (n := 2 * A + 1) (show 0 < s by omega)
        omega
      · refine ⟨_, .inl rfl, q u d n (by rw [hA] at ul; exact ul) ud hd (by rw [hA] at hn; exact hn) ⟨⟨u, d, ul, ud, hd, hn.symm⟩, fun t' c' l' d' c2 => ?_⟩⟩
        obtain ⟨i', hi', e'⟩ := List.getElem_of_mem ((allT_mem s _ t').mpr ⟨l', d'⟩)
        refine hm i' t' c' (by rw [List.getElem?_eq_getElem hi', e']) c2 (.inl ?_)
        rw [hA] at hi'
        exact hi'
theorem ok_greatest {f : Addr} {fd : FuncData} (F : Fun K "greatest_moved" "greatest_moved" s_greatest_moved f fd)
    {f_most_moved : Addr} {fd_most_moved : FuncData}
    (G_most_moved : FnOk P w K mg base CX0 6 f_most_moved fd_most_moved ["rule"] (spD K C fxMost)) (k_most_moved : PySem.W.keepIn K (.ref f_most_moved) = true) (b_most_moved : Binds K fd_most_moved ["rule"] []) (g_most_moved : mg "most_moved" = some (.ref f_most_moved)) :
    FnOk P w K mg base CX0 7 f fd ["rule"] (spD K C fxGreatest) := by
  refine okD F sc_greatest_moved (fun ds R h => ?_) (fun cdv A outer s₀ H E hr xs R h => ?_)
  · obtain ⟨s, w, k, tb, rfl, _⟩ := h
    rfl
  · obtain ⟨s, w, k, tb, rfl, og, ht, hp, q⟩ := h
    refine ⟨_, (pss_one (ps_ret (pe_ix (ixU K) (pe_call G_most_moved (hr.mono (by decide)) (by rfl) g_most_moved k_most_moved b_most_moved .nil pass0 (pa_cons (pv 0) pa_nil)) pe_int (fun _ _ => rfl)))), ?_⟩
    walk_at "rd"
    refine rc_D (ds := [.rul s w k tb]) ⟨s, w, k, tb, rfl, og, ht, hp, fun t c m h1 h2 h3 h4 hU => ?_⟩
    walk_at "rd"
    exact ⟨_, .inl rfl, q m hU⟩
end
end DL

set_option Elab.async false
set_option linter.all false
set_option maxRecDepth 100000
set_option maxHeartbeats 1200000
namespace WP
open PySem L2
/-! ### the text -/
abbrev s_box : Stmt := top 33
abbrev s_take : Stmt := top 34
/-! ### heaps -/
/-! ### the box of draws -/
theorem scTake : FnScope ["_law_box_here", "_law_many", "_law_digit", "_law_raw", "_law_wide"] ["_law_box_here", "_law_many"] (defScope s_take) :=
  ⟨rfl, rfl, rfl, by decide +kernel, rfl, by decide +kernel, by decide +kernel⟩
section
variable {K : PySem.W.Frag} {mg : Str → Option Value} {base : Heap} {w : World} {P : Program}
theorem ok_take {f : Addr} {fd : FuncData} (F : Fun K "_law_take" "_law_take" s_take f fd) (mi : mg "int" = none) : FnOk P w K mg base CX0 1 f fd ["_law_box_here", "_law_many"] spTake := by
  refine F.ok scTake (fun vs H Q E h => ?_) (fun cdv A outer s H vs Q E hr h => ?_)
  · obtain ⟨b, m, rfl, _⟩ := h
    rfl
  · obtain ⟨b, m, rfl, ⟨i, j, k, hb, hi⟩, m0, m1, q⟩ := h
    refine ⟨_, pss_cons (ps_if (pt_cmpR op_gt (pe_ix ix_list (pv 0) pe_int (fun _ _ => rfl)) pe_int (nomark _))
        (pss_cons (ps_set (i := 2) scTake.nd rfl (.inl rfl) (pe_op op_mod (pe_callTy call_int1 (by rfl) mi (by decide +kernel) (pa_cons (pe_ix ix_list (pv 0) pe_int (fun _ _ => rfl)) pa_nil)) (pv 1)))
        (pss_cons (ps_asg (pe_op op_fdivN (pe_ix ix_list (pv 0) pe_int (fun _ _ => rfl)) (pv 1)) (pg_sub (pv 0) pe_int set_list))
        (pss_one (ps_ret (pv 2))))) pss_nil)
      (pss_cons (ps_asg (pe_op op_add (pe_ix ix_list (pv 0) pe_int (fun _ _ => rfl)) pe_int) (pg_sub (pv 0) pe_int set_list))
      (pss_cons (ps_set (i := 3) scTake.nd rfl (.inl rfl) (pe_op op_mod (pe_callTy call_int1 (by rfl) mi (by decide +kernel) (pa_cons (pe_op op_mul (pe_op op_add (pe_ix ix_list (pv 0) pe_int (fun _ _ => rfl)) (pe_op op_mul pe_int (pe_ix ix_list (pv 0) pe_int (fun _ _ => rfl)))) pe_int) pa_nil)) pe_int))
      (pss_cons (ps_asg (pe_op op_add (pe_op op_mod (pe_callTy call_int1 (by rfl) mi (by decide +kernel) (pa_cons (pe_op op_add (pe_op op_mul (pv 3) pe_int) pe_int) pa_nil)) pe_int) pe_int) (pg_sub (pv 0) pe_int set_list))
      (pss_cons (ps_if (pt_cmpR op_lt (pv 1) (pe_op op_pow pe_int pe_int) (nomark _))
        (pss_one (ps_ret (pe_op op_mod (pe_callTy call_int1 (by rfl) mi (by decide +kernel) (pa_cons (pe_op op_fdiv (pe_op op_add (pe_op op_mul (pv 3) pe_int) (pe_ix ix_list (pv 0) pe_int (fun _ _ => rfl))) pe_int) pa_nil)) (pv 1)))) pss_nil)
      (pss_cons ps_never (pss_one ps_never)))))), ?_⟩
    have hq : SqL K H b [.int i, .int j, .int k] := .inl (.inl hb)
    refine ⟨_, rfl, b, _, _, _, rfl, rfl, hq, atI_nat (j := 0) rfl, _, _, rfl, rfl, _, rfl, ite2 (fun e => ?_) (fun e => ?_)⟩
    · -- digits of the great integer
      refine ⟨_, rfl, b, _, _, _, rfl, rfl, hq, atI_nat (j := 0) rfl, .inl ⟨_, rfl, _, rfl, _, _, rfl, rfl, m0, ?_⟩⟩
      refine ⟨_, rfl, b, _, _, _, rfl, rfl, hq, atI_nat (j := 0) rfl, _, rfl, _, _, rfl, rfl, ⟨by omega, by omega⟩, ?_⟩
      refine ⟨_, rfl, b, _, 0, 0, rfl, rfl, hb, rfl, _, rfl, ?_⟩
      have mn : m ≠ 0 := by omega
      exact q _ _ (Int.emod_nonneg _ mn) (Int.emod_lt_of_pos _ m0) but_upd ⟨_, _, _, upd_same, fdiv_nn hi m0⟩
    · -- mixed numbers
      refine ⟨_, rfl, b, _, _, _, rfl, rfl, hq, atI_nat (j := 2) rfl, _, _, rfl, rfl, _, rfl, b, _, 2, 2, rfl, rfl, hb, rfl, ?_⟩
      have h2 : ∀ x : Int, SqL K (upd H b (.lst [.int i, .int j, .int x])) b [.int i, .int j, .int x] := fun x => .inl (.inl upd_same)
      refine ⟨_, rfl, b, _, _, _, rfl, rfl, h2 _, atI_nat (j := 1) rfl, _, rfl, b, _, _, _, rfl, rfl, h2 _, atI_nat (j := 2) rfl, _, _, rfl, rfl, .inl ⟨by decide, by decide⟩, _, _, rfl, rfl, _, _, rfl, rfl, .inr ⟨by decide, by decide⟩, .inl ⟨_, rfl, _, _, rfl, rfl, (by show (0 : Int) < 2147483647; decide), ?_⟩⟩
      refine ⟨_, rfl, _, _, rfl, rfl, .inr ⟨by decide, by decide⟩, _, _, rfl, rfl, .inl ⟨_, rfl, _, _, rfl, rfl, (by show (0 : Int) < 2147483629; decide), _, _, rfl, rfl, _, rfl, b, _, 1, 1, rfl, rfl, upd_same, rfl, ?_⟩⟩
      have h3 : ∀ (Z : Hp) (x y : Int), SqL K (upd Z b (.lst [.int i, .int x, .int y])) b [.int i, .int x, .int y] := fun Z x y => .inl (.inl upd_same)
      refine ⟨_, rfl, _, _, rfl, rfl, ⟨by decide, by decide, by decide⟩, _, _, rfl, rfl, _, rfl, ite2 (fun e2 => ?_) (fun e2 => ?_)⟩
      · refine ⟨_, rfl, _, _, rfl, rfl, .inr ⟨by decide, by decide⟩, _, rfl, b, _, _, _, rfl, rfl, h3 _ _ _, atI_nat (j := 1) rfl, _, _, rfl, rfl, _, _, rfl, rfl, ⟨by decide, by decide⟩, .inl ⟨_, rfl, _, rfl, _, _, rfl, rfl, m0, ?_⟩⟩
        have mn : m ≠ 0 := by omega
        exact q _ _ (Int.emod_nonneg _ mn) (Int.emod_lt_of_pos _ m0) (but_upd.trans but_upd) ⟨_, _, _, upd_same, hi⟩
      · exfalso
        refine e2 (decide_eq_true ?_)
        have e3 : (2 : Int) ^ (40 : Int).toNat = 1099511627776 := by decide
        rw [e3]
        omega
end
end WP
namespace WP
open PySem L2
section
variable {K : PySem.W.Frag} {mg : Str → Option Value} {base : Heap} {w : World} {P : Program}
/-! ### a box is made -/
theorem scBox : FnScope ["_law_script", "_law_k", "_law_own", "_law_cell", "_law_seed"] ["_law_script", "_law_k", "_law_own"] (defScope s_box) :=
  ⟨rfl, rfl, rfl, by decide +kernel, rfl, by decide +kernel, by decide +kernel⟩
theorem ok_box {f : Addr} {fd : FuncData} (F : Fun K "_law_box" "_law_box" s_box f fd) (mi : mg "int" = none) (ml : mg "len" = none) (ma : mg "abs" = none) :
    FnOk P w K mg base CX0 1 f fd ["_law_script", "_law_k", "_law_own"] (spBox K) := by
  refine F.ok scBox (fun vs H Q E h => ?_) (fun cdv A outer s H vs Q E hr h => ?_)
  · obtain ⟨a, ns, k, own, rfl, _⟩ := h
    rfl
  · obtain ⟨a, ns, k, own, rfl, hS, hl, q⟩ := h
    refine ⟨_, pss_cons (ps_set (i := 3) scBox.nd rfl (.inl rfl) (pe_op op_add (pe_op op_add (pe_op op_mul pe_int (pv 1)) (pe_op op_mul pe_int (pv 2))) pe_int))
      (pss_cons (ps_if (pt_cmpR op_lt (pv 1) (pe_callB call_len_seq (by rfl) ml PySem.boot_len (pa_cons (pv 0) pa_nil)) (nomark _))
          (pss_one (ps_set (i := 3) scBox.nd rfl (.inl rfl) (pe_callB call_abs (by rfl) ma (by decide +kernel) (pa_cons (pe_ix ix_list (pv 0) (pv 1) (fun _ _ => rfl)) pa_nil))))
          (pss_one (ps_if (pt_cmpR op_gt (pe_callB call_len_seq (by rfl) ml PySem.boot_len (pa_cons (pv 0) pa_nil)) pe_int (nomark _))
            (pss_one (ps_set (i := 3) scBox.nd rfl (.inl rfl) (pe_op op_add (pv 3) (pe_op op_mul (pe_op op_mod (pe_callTy call_int1 (by rfl) mi (by decide +kernel) (pa_cons (pe_callB call_abs (by rfl) ma (by decide +kernel) (pa_cons
              (pe_ix ix_list (pv 0) (pe_op op_mod (pe_callTy call_int1 (by rfl) mi (by decide +kernel) (pa_cons (pv 1) pa_nil)) (pe_callB call_len_seq (by rfl) ml PySem.boot_len (pa_cons (pv 0) pa_nil))) (fun _ _ => rfl)) pa_nil)) pa_nil)) pe_int) pe_int)))) pss_nil)))
      (pss_cons (ps_set (i := 4) scBox.nd rfl (.inl rfl) (pe_op op_add (pe_op op_mod (pe_callTy call_int1 (by rfl) mi (by decide +kernel) (pa_cons (pe_op op_add (pe_op op_mul (pe_op op_mod (pe_callTy call_int1 (by rfl) mi (by decide +kernel) (pa_cons (pv 3) pa_nil)) pe_int) pe_int)
          (pe_op op_mul pe_int (pe_op op_add (pv 1) (pe_op op_mul pe_int (pv 2))))) pa_nil)) pe_int) pe_int))
      (pss_one (ps_ret (pe_lst (pa_cons (pe_ix ix_list (pe_lst (pa_cons pe_int (pa_cons (pv 3) pa_nil))) (pe_callTy call_int1 (by rfl) mi (by decide +kernel) (pa_cons (pe_cmpR op_ge (pv 3) (pe_op op_pow pe_int pe_int) (nomark _)) pa_nil)) (fun _ _ => rfl)) (pa_cons (pv 4) (pa_cons pe_int pa_nil)))))))), ?_⟩
    refine ⟨_, rfl, _, _, rfl, rfl, .inl ⟨by decide, by decide⟩, _, rfl, _, _, rfl, rfl, .inl ⟨by decide, by decide⟩, _, _, rfl, rfl, _, _, rfl, rfl, ?_⟩
    refine ⟨_, rfl, _, rfl, a, _, rfl, .inl hS, _, _, rfl, rfl, _, rfl, ?_⟩
    refine ite2 (fun e => ?_) (fun e => ?_)
    rotate_left
    · refine ⟨_, rfl, a, _, rfl, .inl hS, _, _, rfl, rfl, _, rfl, ?_⟩
      refine ite2 (fun e => ?_) (fun e => ?_)
      rotate_left
      · have c0 : (0 : Int) ≤ 9013 * k + 100169 * own + 167 := by omega
        refine ⟨_, rfl, .inl ⟨_, rfl, _, _, rfl, rfl, (by show (0 : Int) < 2147483629; decide), _, _, rfl, rfl, .inr ⟨by decide, by decide⟩, _, rfl, _, rfl, _, _, rfl, rfl, .inl ⟨by decide, by decide⟩, _, _, rfl, rfl, _, _, rfl, rfl, .inl ⟨by decide, by decide⟩, _, _, rfl, rfl,
          .inl ⟨_, rfl, _, _, rfl, rfl, (by show (0 : Int) < 2147483629; decide), _, _, rfl, rfl, ?_⟩⟩⟩
        refine ⟨_, rfl, (by show 2 ≤ sizeLine; decide), fun l hl => ⟨_, rfl, _, _, rfl, rfl, ⟨by decide, by decide, by decide⟩, _, _, rfl, rfl, .inr ⟨_, rfl, l, _, _, .int (if decide ((10 : Int) ^ (18 : Int).toNat ≤ (9013 * (k : Int) + 100169 * own + 167)) = true then (9013 * (k : Int) + 100169 * own + 167) else 0), rfl, rfl, .inl (.inl upd_same), ?_, _, rfl, (by show 3 ≤ sizeLine; decide), fun p hp => ?_⟩⟩⟩
        · by_cases hc : decide ((10 : Int) ^ (18 : Int).toNat ≤ (9013 * (k : Int) + 100169 * own + 167)) = true
          · rw [if_pos hc, if_pos hc]
            exact atI_nat (j := 1) rfl
          · rw [if_neg hc, if_neg hc]
            exact atI_nat (j := 0) rfl
        · refine q _ p ((same_upd hl).trans (same_upd hp)) ((same_upd hl).free hp) ⟨_, _, _, upd_same, ite_nn c0⟩
      · have h0 : 0 < ns.length := by
          have := of_decide_eq_true e
          rw [List.length_map] at this
          omega
        have hk : k % ns.length < ns.length := Nat.mod_lt _ h0
        refine ⟨_, rfl, _, rfl, _, rfl, .inl ⟨_, rfl, _, rfl, a, _, rfl, .inl hS, _, _, rfl, rfl, (by show (0 : Int) < ((ns.map V.int).length : Nat); rw [List.length_map]; omega), a, _, _, _, rfl, rfl, hS, atI_mk (j := k % ns.length) (by rw [List.length_map]; rfl) (int_at hk), _, rfl, ?_⟩⟩
        have c1 := abs_nn ns[k % ns.length]
        refine .inl ⟨_, rfl, _, _, rfl, rfl, (by show (0 : Int) < 2147483629; decide), _, _, rfl, rfl, .inr ⟨by decide, by decide⟩, _, _, rfl, rfl, ?_⟩
        have c2 := Int.emod_nonneg (if ns[k % ns.length] < 0 then -ns[k % ns.length] else ns[k % ns.length]) (show (2147483629 : Int) ≠ 0 by decide)
        have c0 : (0 : Int) ≤ 9013 * k + 100169 * own + 167 + (if ns[k % ns.length] < 0 then -ns[k % ns.length] else ns[k % ns.length]) % 2147483629 * 52817 := by omega
        refine ⟨_, rfl, .inl ⟨_, rfl, _, _, rfl, rfl, (by show (0 : Int) < 2147483629; decide), _, _, rfl, rfl, .inr ⟨by decide, by decide⟩, _, rfl, _, rfl, _, _, rfl, rfl, .inl ⟨by decide, by decide⟩, _, _, rfl, rfl, _, _, rfl, rfl, .inl ⟨by decide, by decide⟩, _, _, rfl, rfl,
          .inl ⟨_, rfl, _, _, rfl, rfl, (by show (0 : Int) < 2147483629; decide), _, _, rfl, rfl, ?_⟩⟩⟩
        refine ⟨_, rfl, (by show 2 ≤ sizeLine; decide), fun l hl => ⟨_, rfl, _, _, rfl, rfl, ⟨by decide, by decide, by decide⟩, _, _, rfl, rfl, .inr ⟨_, rfl, l, _, _, .int (if decide ((10 : Int) ^ (18 : Int).toNat ≤ (9013 * (k : Int) + 100169 * own + 167 + (if ns[k % ns.length] < 0 then -ns[k % ns.length] else ns[k % ns.length]) % 2147483629 * 52817)) = true then (9013 * (k : Int) + 100169 * own + 167 + (if ns[k % ns.length] < 0 then -ns[k % ns.length] else ns[k % ns.length]) % 2147483629 * 52817) else 0), rfl, rfl, .inl (.inl upd_same), ?_, _, rfl, (by show 3 ≤ sizeLine; decide), fun p hp => ?_⟩⟩⟩
        · by_cases hc : decide ((10 : Int) ^ (18 : Int).toNat ≤ (9013 * (k : Int) + 100169 * own + 167 + (if ns[k % ns.length] < 0 then -ns[k % ns.length] else ns[k % ns.length]) % 2147483629 * 52817)) = true
          · rw [if_pos hc, if_pos hc]
            exact atI_nat (j := 1) rfl
          · rw [if_neg hc, if_neg hc]
            exact atI_nat (j := 0) rfl
        · refine q _ p ((same_upd hl).trans (same_upd hp)) ((same_upd hl).free hp) ⟨_, _, _, upd_same, ite_nn c0⟩
    · have hk : k < ns.length := by
        have := of_decide_eq_true e
        rw [List.length_map] at this
        omega
      have c0 := abs_nn ns[k]
      refine ⟨_, rfl, _, rfl, a, _, _, _, rfl, rfl, hS, atI_nat (int_at hk), _, rfl, ?_⟩
      generalize (if ns[k] < 0 then -ns[k] else ns[k]) = c at c0 ⊢
      refine ⟨_, rfl, .inl ⟨_, rfl, _, _, rfl, rfl, (by show (0 : Int) < 2147483629; decide), _, _, rfl, rfl, .inr ⟨by decide, by decide⟩, _, rfl, _, rfl, _, _, rfl, rfl, .inl ⟨by decide, by decide⟩, _, _, rfl, rfl, _, _, rfl, rfl, .inl ⟨by decide, by decide⟩, _, _, rfl, rfl,
        .inl ⟨_, rfl, _, _, rfl, rfl, (by show (0 : Int) < 2147483629; decide), _, _, rfl, rfl, ?_⟩⟩⟩
      refine ⟨_, rfl, (by show 2 ≤ sizeLine; decide), fun l hl => ⟨_, rfl, _, _, rfl, rfl, ⟨by decide, by decide, by decide⟩, _, _, rfl, rfl, .inr ⟨_, rfl, l, _, _, .int (if decide ((10 : Int) ^ (18 : Int).toNat ≤ c) = true then c else 0), rfl, rfl, .inl (.inl upd_same), ?_, _, rfl, (by show 3 ≤ sizeLine; decide), fun p hp => ?_⟩⟩⟩
      · by_cases hc : decide ((10 : Int) ^ (18 : Int).toNat ≤ c) = true
        · rw [if_pos hc, if_pos hc]
          exact atI_nat (j := 1) rfl
        · rw [if_neg hc, if_neg hc]
          exact atI_nat (j := 0) rfl
      · refine q _ p ((same_upd hl).trans (same_upd hp)) ((same_upd hl).free hp) ⟨_, _, _, upd_same, ite_nn c0⟩
end
end WP

set_option Elab.async false
set_option linter.all false
set_option maxRecDepth 100000
set_option maxHeartbeats 1200000
namespace DL
open PySem PySem.Spec PyProof.Rows L2 WP
/-! ### the law -/
def fxLaw : List D → (D → Prop) → Prop := fun xs R => ∃ ns, xs = [.scr ns] ∧ ns.length ≤ 63 ∧ R (.bl true)
theorem utmost_of {s w k m : Nat} {tb : List Nat} (h1 : ∃ t ∈ allT s (2 * (2 * w + k - 3) + 1), ∃ c, c < s ∧ mv s w k tb t (2 * w + k - 3) c = m) (h2 : ∀ t ∈ allT s (2 * (2 * w + k - 3) + 1), ∀ c, c < s → mv s w k tb t (2 * w + k - 3) c ≤ m) : Utmost s w k tb m := by
  obtain ⟨t, ht, c, hc, e⟩ := h1
  obtain ⟨h3, h4⟩ := (allT_mem s _ t).mp ht
  exact ⟨⟨t, c, h3, h4, hc, e⟩, fun t c l d hc => h2 t ((allT_mem s _ t).mpr ⟨l, d⟩) c hc⟩
abbrev tAB : List Nat := [0, 0, 1, 0]
abbrev tBA : List Nat := [1, 0, 1, 1]
abbrev t00 : List Nat := [0, 0, 0, 0]
theorem by_ab : byOrd 2 2 1 [[0], [1]] = tAB := by decide +kernel
theorem turn_ab : turnT 2 2 1 tAB = tBA := by decide +kernel
theorem um_ab : Utmost 2 2 1 tAB 2 := utmost_of (by decide +kernel) (by decide +kernel)
theorem um_ba : Utmost 2 2 1 tBA 2 := utmost_of (by decide +kernel) (by decide +kernel)
theorem um_every : Utmost 2 2 1 t00 0 := utmost_of (by decide +kernel) (by decide +kernel)
theorem um_sole : Utmost 4 1 1 t00 0 := utmost_of (by decide +kernel) (by decide +kernel)
theorem og_ab : OkG 2 2 1 := ⟨.inl rfl, by decide, by decide, by decide, by decide⟩
theorem og_sole : OkG 4 1 1 := ⟨.inr (.inr rfl), by decide, by decide, by decide, by decide⟩
theorem tab_ab : Tab 2 2 1 tAB := ⟨rfl, by decide⟩
theorem tab_ba : Tab 2 2 1 tBA := ⟨rfl, by decide⟩
theorem tab_every : Tab 2 2 1 t00 := ⟨rfl, by decide⟩
theorem tab_sole : Tab 4 1 1 t00 := ⟨rfl, by decide⟩
def lef (n : Nat) : List Nat := (List.replicate n [1, 0]).flatten
def rig (n : Nat) : List Nat := (List.replicate n [0, 1]).flatten
theorem cut_b : ∀ m, m < 40 → ((lef (m + 1) ++ [1] ++ rig (m + 1)).drop (2 * m)).take 5 = [1, 0, 1, 0, 1] ∧ ((lef (m + 1) ++ [0] ++ rig (m + 1)).drop (2 * m)).take 5 = [1, 0, 0, 0, 1] := by decide +kernel
theorem ord_ab : OrdOk 2 1 [[0], [1]] := by
  refine ⟨by decide, by decide, by decide, fun p hl hd => ?_, fun ys hp hs => ?_⟩
  · match p, hl with
    | [d], _ =>
      have := hd d (List.mem_singleton.mpr rfl)
      have : d = 0 ∨ d = 1 := by omega
      rcases this with rfl | rfl <;> decide
  · have e : ys = [tx [0], tx [1]] ∨ ys = [tx [1], tx [0]] := by
      match ys, hp with
      | [], hp => exact absurd hp.length_eq (by decide)
      | [_], hp => exact absurd hp.length_eq (by simp)
      | [a, b], hp =>
        have ha := hp.mem_iff.mp (List.mem_cons_self (a := a) (l := [b]))
        have hb := hp.mem_iff.mp (List.mem_cons_of_mem a (List.mem_cons_self (a := b) (l := [])))
        have nd : [a, b].Nodup := hp.nodup_iff.mpr (by decide +kernel)
        have ha : a = tx [0] ∨ a = tx [1] := by simpa using ha
        have hb : b = tx [0] ∨ b = tx [1] := by simpa using hb
        rcases ha with rfl | rfl <;> rcases hb with rfl | rfl
        · simp at nd
        · exact .inl rfl
        · exact .inr rfl
        · simp at nd
      | _ :: _ :: _ :: _, hp => exact absurd hp.length_eq (by simp)
    rcases e with rfl | rfl
    · decide +kernel
    · exact absurd hs (by decide +kernel)
theorem rep_len (n : Nat) (l : List Nat) : ((List.replicate n l).flatten).length = n * l.length := by
  rw [List.length_flatten, List.map_replicate, List.sum_replicate_nat]
theorem rep_dig {s n : Nat} {l : List Nat} (h : Dig s l) : Dig s (List.replicate n l).flatten := fun d hd => by
  obtain ⟨x, hx, hx2⟩ := List.mem_flatten.mp hd
  rw [List.eq_of_mem_replicate hx] at hx2
  exact h d hx2
theorem mid_ok {r c : Nat} (hc : c < 2) : (lef (r + 1) ++ [c] ++ rig (r + 1)).length = 4 * r + 5 ∧ Dig 2 (lef (r + 1) ++ [c] ++ rig (r + 1)) := by
  refine ⟨?_, fun d hd => ?_⟩
  · unfold lef rig
    rw [List.length_append, List.length_append, rep_len, rep_len]
    show (r + 1) * 2 + 1 + (r + 1) * 2 = _
    omega
  · rcases List.mem_append.mp hd with h | h
    · rcases List.mem_append.mp h with h | h
      · exact rep_dig (l := [1, 0]) (by unfold Dig; decide) d h
      · rw [List.mem_singleton.mp h]
        exact hc
    · exact rep_dig (l := [0, 1]) (by unfold Dig; decide) d h
theorem mid_b {r : Nat} (h : r < 40) : gone 2 2 1 tAB (lef (r + 1) ++ [1] ++ rig (r + 1)) (2 * (r + 1)) 0 = [] ∧ come 2 2 1 tAB (lef (r + 1) ++ [1] ++ rig (r + 1)) (2 * (r + 1)) 0 = [2 * (r + 1)] := by
  obtain ⟨l, d⟩ := mid_ok (r := r) (c := 1) (by decide)
  have e : 2 * (r + 1) - 2 * r = 2 := by omega
  rw [gone_in (b := 2 * r) (m := 5) (by decide) (by decide) tab_ab d (by decide) (by omega) (by omega) (by omega), come_in (b := 2 * r) (m := 5) (by decide) (by decide) tab_ab d (by decide) (by omega) (by omega) (by omega), (cut_b r h).1, e]
  refine ⟨?_, ?_⟩
  · rw [show gone 2 2 1 tAB [1, 0, 1, 0, 1] 2 0 = [] by decide +kernel]
    rfl
  · rw [show come 2 2 1 tAB [1, 0, 1, 0, 1] 2 0 = [2] by decide +kernel]
    show [2 + 2 * r] = _
    rw [show 2 + 2 * r = 2 * (r + 1) by omega]
theorem mid_a {r : Nat} (h : r < 40) : gone 2 2 1 tAB (lef (r + 1) ++ [0] ++ rig (r + 1)) (2 * (r + 1)) 1 = [2 * (r + 1)] ∧ come 2 2 1 tAB (lef (r + 1) ++ [0] ++ rig (r + 1)) (2 * (r + 1)) 1 = [] := by
  obtain ⟨l, d⟩ := mid_ok (r := r) (c := 0) (by decide)
  have e : 2 * (r + 1) - 2 * r = 2 := by omega
  rw [gone_in (b := 2 * r) (m := 5) (by decide) (by decide) tab_ab d (by decide) (by omega) (by omega) (by omega), come_in (b := 2 * r) (m := 5) (by decide) (by decide) tab_ab d (by decide) (by omega) (by omega) (by omega), (cut_b r h).2, e]
  refine ⟨?_, ?_⟩
  · rw [show gone 2 2 1 tAB [1, 0, 0, 0, 1] 2 1 = [2] by decide +kernel]
    show [2 + 2 * r] = _
    rw [show 2 + 2 * r = 2 * (r + 1) by omega]
  · rw [show come 2 2 1 tAB [1, 0, 0, 0, 1] 2 1 = [] by decide +kernel]
    rfl
theorem all_b : ∀ m, m < 40 → gone 2 2 1 tAB (List.replicate (m + 3) [1]).flatten (m + 1) 0 = [m] ∧ come 2 2 1 tAB (List.replicate (m + 3) [1]).flatten (m + 1) 0 = [] := by decide +kernel
section
variable {K : PySem.W.Frag} {C : Addr} {S : Sta} {Kn : KE} {E : XK}
theorem rc_great {s w k m : Nat} {tb : List Nat} (og : OkG s w k) (ht : Tab s w k tb) (hp : s ^ (2 * (2 * w + k - 3) + 1) ≤ 100000) (hu : Utmost s w k tb m) (h : Kn (.val (nat m)) S) : RcD K C (OnR (spD K C fxGreatest) E) [.val (.rul s w k tb)] S Kn :=
  rc_D (ds := [.rul s w k tb]) ⟨s, w, k, tb, rfl, og, ht, hp, fun n hn => by rw [hn.one hu]; exact h⟩
theorem rc_most {s w k m : Nat} {tb : List Nat} (og : OkG s w k) (ht : Tab s w k tb) (hp : s ^ (2 * (2 * w + k - 3) + 1) ≤ 100000) (hu : Utmost s w k tb m) (h : ∀ t c, t.length = 2 * (2 * w + k - 3) + 1 → Kn (.val (.tup [txd t, txd [c], nat m])) S) : RcD K C (OnR (spD K C fxMost) E) [.val (.rul s w k tb)] S Kn :=
  rc_D (ds := [.rul s w k tb]) ⟨s, w, k, tb, rfl, og, ht, hp, fun t c n h1 _ _ _ hn => by rw [hn.one hu]; exact h t c h1⟩
theorem rc_moved {s w k a c : Nat} {tb ds gs cs : List Nat} {i : Int} (og : OkG s w k) (ht : Tab s w k tb) (hl : ds.length ≤ 1000) (hd : Dig s ds) (ha : a < ds.length) (hc : c < s) (hi : i = (a : Int)) (hg : gone s w k tb ds a c = gs) (hm : come s w k tb ds a c = cs)
    (h : Kn (.val (.tup [.tup (gs.map nat), .tup (cs.map nat)])) S) : RcD K C (OnR (spD K C fxMoved) E) [.val (.rul s w k tb), .val (txd ds), .val (.int i), .val (txd [c])] S Kn := by
  subst hi hg hm
  exact rc_D (ds := [.rul s w k tb, txd ds, nat a, txd [c]]) ⟨s, w, k, tb, ds, a, c, rfl, og, ht, hl, hd, ha, hc, h⟩
end
end DL

set_option Elab.async false
set_option linter.all false
set_option maxRecDepth 100000
set_option maxHeartbeats 1200000
namespace DL
open PySem PySem.Spec PyProof.Rows L2 WP
abbrev s_law : Stmt := top 35
abbrev n_law : List Str := ["_law_script", "_law_k", "_law_box_here", "_law_rule_ab", "_law_every", "_law_many", "_law_left", "_law_right", "_law_at", "_law_sole"]
theorem sc_law : FnScope n_law ["_law_script"] (defScope s_law) := ⟨rfl, rfl, rfl, by decide +kernel, rfl, by decide +kernel, by decide +kernel⟩
section
variable {K : PySem.W.Frag} {C : Addr} {mg : Str → Option Value} {base : Heap} {w : World} {P : Program}
theorem lit1 : Str.ofString "babba" = tx [1, 0, 1, 1, 0] := by decide +kernel
theorem lit2 : Str.ofString "a" = tx [0] := by decide +kernel
theorem lit3 : Str.ofString "b" = tx [1] := by decide +kernel
theorem lit4 : Str.ofString "ab" = tx [0, 1] := by decide +kernel
theorem lit5 : Str.ofString "ba" = tx [1, 0] := by decide +kernel
theorem lit6 : Str.ofString "bb" = tx [1, 1] := by decide +kernel
theorem lit7 : Str.ofString "abcd" = tx [0, 1, 2, 3] := by decide +kernel
theorem lit8 : Str.ofString "d" = tx [3] := by decide +kernel
theorem iteZ {A B : Prop} {b : Bool} (e : b = false) (h : B) : if b = true then A else B := by
  subst e
  exact iteF h
theorem pl_mv (gs cs : List Nat) : Pl 64 (.tup [.tup (gs.map nat), .tup (cs.map nat)]) := by
  intro d hd
  have h : ∀ l : List Nat, Pl 63 (.tup (l.map nat)) := fun l d hd => by
    obtain ⟨n, _, rfl⟩ := List.mem_map.mp hd
    exact True.intro
  rcases List.mem_cons.mp hd with rfl | hd
  · exact h gs
  · rcases List.mem_cons.mp hd with rfl | hd
    · exact h cs
    · cases hd
theorem ok_law {f : Addr} {fd : FuncData} (F : Fun K "law" "law" s_law f fd)
    {f_moved f_most_moved f_greatest_moved f__law_take f_Rule_turned f_Rule_by_order f__law_box : Addr} {fd_moved fd_most_moved fd_greatest_moved fd__law_take fd_Rule_turned fd__law_box : FuncData}
    (m_range : mg "range" = none)
    (m_max : mg "max" = none)
    (m_min : mg "min" = none)
    (m_len : mg "len" = none)
    (T : RTxt K mg C)
    {f_I : Addr} {fd_I : FuncData} (M : Mk K C f_I) (G_I : FnOk P w K mg base CX0 4 f_I fd_I ["self", "letters", "w", "k", "table"] (spInit C)) (b_I : Binds K fd_I ["self", "letters", "w", "k", "table"] [])
    (G_moved : FnOk P w K mg base CX0 5 f_moved fd_moved ["rule", "text", "at", "letter"] (spD K C fxMoved)) (k_moved : PySem.W.keepIn K (.ref f_moved) = true) (b_moved : Binds K fd_moved ["rule", "text", "at", "letter"] []) (g_moved : mg "moved" = some (.ref f_moved))
    (G_most_moved : FnOk P w K mg base CX0 6 f_most_moved fd_most_moved ["rule"] (spD K C fxMost)) (k_most_moved : PySem.W.keepIn K (.ref f_most_moved) = true) (b_most_moved : Binds K fd_most_moved ["rule"] []) (g_most_moved : mg "most_moved" = some (.ref f_most_moved))
    (G_greatest_moved : FnOk P w K mg base CX0 7 f_greatest_moved fd_greatest_moved ["rule"] (spD K C fxGreatest)) (k_greatest_moved : PySem.W.keepIn K (.ref f_greatest_moved) = true) (b_greatest_moved : Binds K fd_greatest_moved ["rule"] []) (g_greatest_moved : mg "greatest_moved" = some (.ref f_greatest_moved))
    (G__law_take : FnOk P w K mg base CX0 1 f__law_take fd__law_take ["_law_box_here", "_law_many"] (spTake)) (k__law_take : PySem.W.keepIn K (.ref f__law_take) = true) (b__law_take : Binds K fd__law_take ["_law_box_here", "_law_many"] []) (g__law_take : mg "_law_take" = some (.ref f__law_take))
    {p_turned : Addr} (G_Rule_turned : FnOk P w K mg base CX0 6 f_Rule_turned fd_Rule_turned ["self"] (spD K C fxTurned)) (pp_turned : PropOf K C "turned" p_turned f_Rule_turned) (b_Rule_turned : Binds K fd_Rule_turned ["self"] [])
    {p_by_order : Addr} {mc : Value} (r_C : ClX.CRead K C mc) (c_by_order : ClX.CMet K C mc "by_order" p_by_order f_Rule_by_order) (R_by_order : FnR P w K mg base CX0 6 f_Rule_by_order (fun vs H Q E => spD K C fxBy (vs ++ [V.bl false]) H Q E))
    (G__law_box : FnOk P w K mg base CX0 1 f__law_box fd__law_box ["_law_script", "_law_k", "_law_own"] (spBox K)) (k__law_box : PySem.W.keepIn K (.ref f__law_box) = true) (b__law_box : Binds K fd__law_box ["_law_script", "_law_k", "_law_own"] []) (g__law_box : mg "_law_box" = some (.ref f__law_box)) :
    FnOk P w K mg base CX0 8 f fd ["_law_script"] (spD K C fxLaw) := by
  refine okD F sc_law (fun ds R h => ?_) (fun cdv A outer s₀ H E hr xs R h => ?_)
  · obtain ⟨ns, rfl, _⟩ := h
    rfl
  · obtain ⟨ns, rfl, hl, q⟩ := h
    refine ⟨_, (pss_cons (ps_for PassesOwn.never rfl (pi_range1 (by rfl) m_range (pa_cons (pe_callB (call_max2 rfl) (by rfl) m_max (by decide +kernel) (pa_cons pe_int (pa_cons (pe_callB (call_min2 rfl) (by rfl) m_min (by decide +kernel) (pa_cons pe_int (pa_cons (pe_callB (lenU K) (by rfl) m_len (by decide +kernel) (pa_cons (pv 0) pa_nil)) pa_nil))) pa_nil))) pa_nil)) (pg_name (i := 1) sc_law.nd rfl (.inl rfl)) (pss_cons (ps_set (i := 2) sc_law.nd rfl (.inl rfl) (pe_call G__law_box (hr.mono (by decide)) (by rfl) g__law_box k__law_box b__law_box .nil pass0 (pa_cons (pv 0) (pa_cons (pv 1) (pa_cons pe_int pa_nil)))))
      (pss_cons (ps_par (i := 3) (j := 4) rfl sc_law.nd rfl rfl (by decide) rfl rfl (pa_cons (ClX.pe_cmeth (C8.pe_gc (v := .ref C) (by rfl) ⟨_, T.mgC, rfl⟩) r_C c_by_order R_by_order (hr.mono (by decide)) pass0 (pa_cons pe_int (pa_cons pe_int (pa_cons pe_int (pa_cons (pe_lst (pa_cons pe_str (pa_cons pe_str pa_nil))) pa_nil))))) (pa_cons (pe_make M G_I (hr.mono (by decide)) (by rfl) T.mgC b_I .nil pass0 (pa_cons pe_int (pa_cons pe_int (pa_cons pe_int (pa_cons (pe_lst (pa_cons pe_int (pa_cons pe_int (pa_cons pe_int (pa_cons pe_int pa_nil))))) pa_nil))))) pa_nil)) (by rfl))
      (pss_cons (ps_if (PW.pt (pw_or (pt_cmpR (opNeU K hr.units) (pe_call G_moved (hr.mono (by decide)) (by rfl) g_moved k_moved b_moved .nil pass0 (pa_cons (pv 3) (pa_cons pe_str (pa_cons pe_int (pa_cons pe_str pa_nil))))) (pe_tup (pa_cons (pe_tup (pa_cons pe_int (pa_cons pe_int pa_nil))) (pa_cons (pe_tup (pa_cons pe_int pa_nil)) pa_nil))) (nomark _)) (pw_or1 (pt_cmpR (opNeU K hr.units) (pe_call G_moved (hr.mono (by decide)) (by rfl) g_moved k_moved b_moved .nil pass0 (pa_cons (pv 3) (pa_cons pe_str (pa_cons pe_int (pa_cons pe_str pa_nil))))) (pe_tup (pa_cons (pe_tup pa_nil) (pa_cons (pe_tup pa_nil) pa_nil))) (nomark _))))) (pss_one (ps_ret pe_bl)) pss_nil)
      (pss_cons (ps_if (PW.pt (pw_or (pt_cmpR (opNeU K hr.units) (pe_call G_moved (hr.mono (by decide)) (by rfl) g_moved k_moved b_moved .nil pass0 (pa_cons (pv 3) (pa_cons pe_str (pa_cons pe_int (pa_cons pe_str pa_nil))))) (pe_tup (pa_cons (pe_tup pa_nil) (pa_cons (pe_tup pa_nil) pa_nil))) (nomark _)) (pw_or1 (pt_cmpR (opNeU K hr.units) (pe_call G_moved (hr.mono (by decide)) (by rfl) g_moved k_moved b_moved .nil pass0 (pa_cons (pv 3) (pa_cons pe_str (pa_cons pe_int (pa_cons pe_str pa_nil))))) (pe_tup (pa_cons (pe_tup pa_nil) (pa_cons (pe_tup pa_nil) pa_nil))) (nomark _))))) (pss_one (ps_ret pe_bl)) pss_nil)
      (pss_cons (ps_if (PW.pt (pw_or (pt_cmpR (opNeU K hr.units) (pe_call G_moved (hr.mono (by decide)) (by rfl) g_moved k_moved b_moved .nil pass0 (pa_cons (pv 3) (pa_cons pe_str (pa_cons pe_int (pa_cons pe_str pa_nil))))) (pe_tup (pa_cons (pe_tup (pa_cons pe_int pa_nil)) (pa_cons (pe_tup (pa_cons pe_int pa_nil)) pa_nil))) (nomark _)) (pw_or1 (pt_cmpR (opNeU K hr.units) (pe_call G_moved (hr.mono (by decide)) (by rfl) g_moved k_moved b_moved .nil pass0 (pa_cons (pv 3) (pa_cons pe_str (pa_cons pe_int (pa_cons pe_str pa_nil))))) (pe_tup (pa_cons (pe_tup pa_nil) (pa_cons (pe_tup pa_nil) pa_nil))) (nomark _))))) (pss_one (ps_ret pe_bl)) pss_nil)
      (pss_cons (ps_if (PW.pt (pw_or (pt_cmpR (opNeU K hr.units) (pe_call G_greatest_moved (hr.mono (by decide)) (by rfl) g_greatest_moved k_greatest_moved b_greatest_moved .nil pass0 (pa_cons (pv 3) pa_nil)) pe_int (nomark _)) (pw_or (pt_cmpR (opNeU K hr.units) (pe_call G_greatest_moved (hr.mono (by decide)) (by rfl) g_greatest_moved k_greatest_moved b_greatest_moved .nil pass0 (pa_cons (pe_prop (pv 3) T.cl pp_turned G_Rule_turned (hr.mono (by decide)) b_Rule_turned .nil pass0 rfl) pa_nil)) pe_int (nomark _)) (pw_or1 (pt_cmpR (opNeU K hr.units) (pe_call G_greatest_moved (hr.mono (by decide)) (by rfl) g_greatest_moved k_greatest_moved b_greatest_moved .nil pass0 (pa_cons (pv 4) pa_nil)) pe_int (nomark _)))))) (pss_one (ps_ret pe_bl)) pss_nil)
      (pss_cons (ps_set (i := 5) sc_law.nd rfl (.inl rfl) (pe_op (opAddU K) pe_int (pe_call G__law_take (hr.mono (by decide)) (by rfl) g__law_take k__law_take b__law_take .nil pass0 (pa_cons (pv 2) (pa_cons pe_int pa_nil)))))
      (pss_cons (ps_par (i := 6) (j := 7) rfl sc_law.nd rfl rfl (by decide) rfl rfl (pa_cons (pe_op (opMulU K) pe_str (pv 5)) (pa_cons (pe_op (opMulU K) pe_str (pv 5)) pa_nil)) (by rfl))
      (pss_cons (ps_set (i := 8) sc_law.nd rfl (.inl rfl) (pe_op (opMulU K) pe_int (pv 5)))
      (pss_cons (ps_if (pt_cmpR (opNeU K hr.units) (pe_call G_moved (hr.mono (by decide)) (by rfl) g_moved k_moved b_moved .nil pass0 (pa_cons (pv 3) (pa_cons (pe_op (opAddU K) (pe_op (opAddU K) (pv 6) pe_str) (pv 7)) (pa_cons (pv 8) (pa_cons pe_str pa_nil))))) (pe_tup (pa_cons (pe_tup pa_nil) (pa_cons (pe_tup (pa_cons (pv 8) pa_nil)) pa_nil))) (nomark _)) (pss_one (ps_ret pe_bl)) pss_nil)
      (pss_cons (ps_if (pt_cmpR (opNeU K hr.units) (pe_call G_moved (hr.mono (by decide)) (by rfl) g_moved k_moved b_moved .nil pass0 (pa_cons (pv 3) (pa_cons (pe_op (opAddU K) (pe_op (opAddU K) (pv 6) pe_str) (pv 7)) (pa_cons (pv 8) (pa_cons pe_str pa_nil))))) (pe_tup (pa_cons (pe_tup (pa_cons (pv 8) pa_nil)) (pa_cons (pe_tup pa_nil) pa_nil))) (nomark _)) (pss_one (ps_ret pe_bl)) pss_nil)
      (pss_cons (ps_if (pt_cmpR (opNeU K hr.units) (pe_call G_moved (hr.mono (by decide)) (by rfl) g_moved k_moved b_moved .nil pass0 (pa_cons (pv 3) (pa_cons (pe_op (opMulU K) pe_str (pe_op (opAddU K) (pv 5) pe_int)) (pa_cons (pv 5) (pa_cons pe_str pa_nil))))) (pe_tup (pa_cons (pe_tup (pa_cons (pe_op op_sub (pv 5) pe_int) pa_nil)) (pa_cons (pe_tup pa_nil) pa_nil))) (nomark _)) (pss_one (ps_ret pe_bl)) pss_nil)
      (pss_cons (ps_if (PW.pt (pw_or (pt_cmpR (opNeU K hr.units) (pe_ix (ixU K) (pe_call G_most_moved (hr.mono (by decide)) (by rfl) g_most_moved k_most_moved b_most_moved .nil pass0 (pa_cons (pv 4) pa_nil)) pe_int (fun _ _ => rfl)) pe_int (nomark _)) (pw_or1 (pt_cmpR (opNeU K hr.units) (pe_callB (lenU K) (by rfl) m_len (by decide +kernel) (pa_cons (pe_ix (ixU K) (pe_call G_most_moved (hr.mono (by decide)) (by rfl) g_most_moved k_most_moved b_most_moved .nil pass0 (pa_cons (pv 4) pa_nil)) pe_int (fun _ _ => rfl)) pa_nil)) pe_int (nomark _))))) (pss_one (ps_ret pe_bl)) pss_nil)
      (pss_cons (ps_set (i := 9) sc_law.nd rfl (.inl rfl) (pe_make M G_I (hr.mono (by decide)) (by rfl) T.mgC b_I .nil pass0 (pa_cons pe_int (pa_cons pe_int (pa_cons pe_int (pa_cons (pe_lst (pa_cons pe_int (pa_cons pe_int (pa_cons pe_int (pa_cons pe_int pa_nil))))) pa_nil))))))
      (pss_one (ps_if (PW.pt (pw_or (pt_cmpR (opNeU K hr.units) (pe_call G_greatest_moved (hr.mono (by decide)) (by rfl) g_greatest_moved k_greatest_moved b_greatest_moved .nil pass0 (pa_cons (pv 9) pa_nil)) pe_int (nomark _)) (pw_or (pt_cmpR (opNeU K hr.units) (pe_callB (lenU K) (by rfl) m_len (by decide +kernel) (pa_cons (pe_ix (ixU K) (pe_call G_most_moved (hr.mono (by decide)) (by rfl) g_most_moved k_most_moved b_most_moved .nil pass0 (pa_cons (pv 9) pa_nil)) pe_int (fun _ _ => rfl)) pa_nil)) pe_int (nomark _)) (pw_or1 (pt_cmpR (opNeU K hr.units) (pe_call G_moved (hr.mono (by decide)) (by rfl) g_moved k_moved b_moved .nil pass0 (pa_cons (pv 9) (pa_cons pe_str (pa_cons pe_int (pa_cons pe_str pa_nil))))) (pe_tup (pa_cons (pe_tup pa_nil) (pa_cons (pe_tup pa_nil) pa_nil))) (nomark _)))))) (pss_one (ps_ret pe_bl)) pss_nil)))))))))))))))))
      (pss_one (ps_ret pe_bl))), ?_⟩
    rw [lit1, lit2, lit3, lit4, lit5, lit6, lit7, lit8]
    walk_at "rd"
    refine rd_forL (List.range (if (if (ns.length : Int) < 3 then (ns.length : Int) else 3) > 1 then (if (ns.length : Int) < 3 then (ns.length : Int) else 3) else 1 : Int).toNat) nat (fun _ S2 => ∃ z1 z2 z3 z4 z5 z6 z7 z8 z9, S2 = ⟨[.val (.scr ns), z1, z2, z3, z4, z5, z6, z7, z8, z9], []⟩) (ri_range1 ?_)
    walk_at "rd"
    refine ⟨by split <;> split <;> omega, by split <;> split <;> omega, rfl, Nat.le_refl _, ⟨.any, .any, .any, .any, .any, .any, .any, .any, .any, rfl⟩, ?_, ?_⟩
    · rintro i x S2 hx _ ⟨z1, z2, z3, z4, z5, z6, z7, z8, z9, rfl⟩
      walk_at "rd"
      refine rc_box (k := x) (own := 44) hl ?_
      walk_at "rd"
      refine rd_cmeth (rd_gc (d := .cls) (fun _ => rfl) ⟨rfl, ?_⟩)
      walk_at "rd"
      refine rc_Dd (ds := [.cls, nat 2, nat 2, nat 1, .lst ([[0], [1]].map txd)]) (es := [.bl false]) (fun _ => ⟨_, _, rfl, rfl, rfl⟩) ⟨2, 2, 1, [[0], [1]], rfl, og_ab, by decide, ord_ab, ?_⟩
      rw [by_ab]
      walk_at "rd"
      refine rd_make ?_
      walk_at "rd"
      refine ⟨2, 2, 1, t00, rfl, og_ab, tab_every, by decide, ?_⟩
      walk_at "rd"
      refine rc_moved (ds := [1, 0, 1, 1, 0]) (a := 3) (c := 0) (gs := [2, 4]) (cs := [3]) og_ab tab_ab (by decide) (by unfold Dig; decide) (by decide) (by decide) rfl (by decide +kernel) (by decide +kernel) ?_
      walk_at "rd"
      refine r2_neUs (pl_mv [2, 4] [3]) rfl ?_
      walk_at "rd"
      refine rc_moved (ds := [1, 0, 1, 1, 0]) (a := 2) (c := 0) (gs := []) (cs := []) og_ab tab_ab (by decide) (by unfold Dig; decide) (by decide) (by decide) rfl (by decide +kernel) (by decide +kernel) ?_
      walk_at "rd"
      refine r2_neUs (pl_mv [] []) rfl ?_
      walk_at "rd"
      refine rc_moved (ds := [0]) (a := 0) (c := 1) (gs := []) (cs := []) og_ab tab_ab (by decide) (by unfold Dig; decide) (by decide) (by decide) rfl (by decide +kernel) (by decide +kernel) ?_
      walk_at "rd"
      refine r2_neUs (pl_mv [] []) rfl ?_
      walk_at "rd"
      refine rc_moved (ds := [0, 1]) (a := 0) (c := 1) (gs := []) (cs := []) og_ab tab_ab (by decide) (by unfold Dig; decide) (by decide) (by decide) rfl (by decide +kernel) (by decide +kernel) ?_
      walk_at "rd"
      refine r2_neUs (pl_mv [] []) rfl ?_
      walk_at "rd"
      refine rc_moved (ds := [1, 1]) (a := 1) (c := 0) (gs := [0]) (cs := [1]) og_ab tab_ab (by decide) (by unfold Dig; decide) (by decide) (by decide) rfl (by decide +kernel) (by decide +kernel) ?_
      walk_at "rd"
      refine r2_neUs (pl_mv [0] [1]) rfl ?_
      walk_at "rd"
      refine rc_moved (ds := [1, 1]) (a := 0) (c := 0) (gs := []) (cs := []) og_ab tab_ab (by decide) (by unfold Dig; decide) (by decide) (by decide) rfl (by decide +kernel) (by decide +kernel) ?_
      walk_at "rd"
      refine r2_neUs (pl_mv [] []) rfl ?_
      walk_at "rd"
      refine rc_great og_ab tab_ab (by decide) um_ab ?_
      walk_at "rd"
      refine iteZ (by decide) ?_
      walk_at "rd"
      refine rd_prop (rd_val rfl ⟨2, 2, 1, tAB, rfl, ?_⟩)
      refine rc_D (ds := [.rul 2 2 1 tAB]) ⟨2, 2, 1, tAB, rfl, og_ab, by decide, tab_ab, ?_⟩
      rw [turn_ab]
      walk_at "rd"
      refine rc_great og_ab tab_ba (by decide) um_ba ?_
      walk_at "rd"
      refine iteZ (by decide) ?_
      walk_at "rd"
      refine rc_great og_ab tab_every (by decide) um_every ?_
      walk_at "rd"
      refine iteZ (by decide) ?_
      walk_at "rd"
      refine rc_takeN rfl (by decide) (by decide) fun r hr2 => ?_
      have hr3 : r < 40 := by omega
      walk_at "rd"
      rw [show (1 : Int) + (r : Int) = ((r + 1 : Nat) : Int) by omega]
      walk_at "rd"
      refine r2_mulX (by omega) (by omega) (by decide) (by decide) ?_
      walk_at "rd"
      refine r2_mulX (by omega) (by omega) (by decide) (by decide) ?_
      have L1 := rep_len (r + 1) [1, 0]
      have L2 := rep_len (r + 1) [0, 1]
      obtain ⟨lb, db⟩ := mid_ok (r := r) (c := 1) (by decide)
      obtain ⟨la, da⟩ := mid_ok (r := r) (c := 0) (by decide)
      walk_at "rd"
      rw [show (2 : Int) * ((r + 1 : Nat) : Int) = ((2 * (r + 1) : Nat) : Int) by omega]
      refine rc_moved (ds := lef (r + 1) ++ [1] ++ rig (r + 1)) (a := 2 * (r + 1)) (c := 0) (gs := []) (cs := [2 * (r + 1)]) og_ab tab_ab (by omega) db (by omega) (by decide) rfl (mid_b hr3).1 (mid_b hr3).2 ?_
      walk_at "rd"
      refine r2_neUs (pl_mv [] [2 * (r + 1)]) rfl ?_
      walk_at "rd"
      refine rc_moved (ds := lef (r + 1) ++ [0] ++ rig (r + 1)) (a := 2 * (r + 1)) (c := 1) (gs := [2 * (r + 1)]) (cs := []) og_ab tab_ab (by omega) da (by omega) (by decide) rfl (mid_a hr3).1 (mid_a hr3).2 ?_
      walk_at "rd"
      refine r2_neUs (pl_mv [2 * (r + 1)] []) rfl ?_
      walk_at "rd"
      rw [show ((r + 1 : Nat) : Int) + 2 = ((r + 3 : Nat) : Int) by omega]
      refine r2_mulX (by omega) (by omega) (by decide) (by decide) ?_
      walk_at "rd"
      have e3 : ((List.replicate (r + 3) [1]).flatten).length = r + 3 := by rw [rep_len]; show (r + 3) * 1 = _; omega
      refine rc_moved (ds := (List.replicate (r + 3) [1]).flatten) (a := r + 1) (c := 0) (gs := [r]) (cs := []) og_ab tab_ab (by omega) (rep_dig (by unfold Dig; decide)) (by omega) (by decide) rfl (all_b r hr3).1 (all_b r hr3).2 ?_
      walk_at "rd"
      rw [show ((r + 1 : Nat) : Int) - 1 = ((r : Nat) : Int) by omega]
      refine r2_neUs (pl_mv [r] []) rfl ?_
      walk_at "rd"
      refine rc_most og_ab tab_every (by decide) um_every fun t c ht => ?_
      have ht : t.length = 5 := ht
      walk_at "rd"
      refine iteZ (by decide) ?_
      walk_at "rd"
      refine rc_most og_ab tab_every (by decide) um_every fun t2 c2 ht2 => ?_
      have ht2 : t2.length = 5 := ht2
      walk_at "rd"
      refine iteZ (by rw [ht2]; decide) ?_
      walk_at "rd"
      refine rd_make ?_
      walk_at "rd"
      refine ⟨4, 1, 1, t00, rfl, og_sole, tab_sole, by decide, ?_⟩
      walk_at "rd"
      refine rc_great og_sole tab_sole (by decide) um_sole ?_
      walk_at "rd"
      refine iteZ (by decide) ?_
      walk_at "rd"
      refine rc_most og_sole tab_sole (by decide) um_sole fun t3 c3 ht3 => ?_
      have ht3 : t3.length = 1 := ht3
      walk_at "rd"
      refine iteZ (by rw [ht3]; decide) ?_
      walk_at "rd"
      refine rc_moved (ds := [0, 1, 2, 3]) (a := 2) (c := 3) (gs := []) (cs := []) og_sole tab_sole (by decide) (by unfold Dig; decide) (by decide) (by decide) rfl (by decide +kernel) (by decide +kernel) ?_
      walk_at "rd"
      refine r2_neUs (pl_mv [] []) rfl ?_
      walk_at "rd"
      exact ⟨_, [], [.box], rfl, by walk_at "wk", rfl, .any, .any, .any, .any, .any, .any, .any, .any, .any, rfl⟩
      all_goals simp only [List.length_append, List.length_cons, List.length_nil] at *
      all_goals omega
    · rintro S2 _ ⟨z1, z2, z3, z4, z5, z6, z7, z8, z9, rfl⟩
      walk_at "rd"
      exact ⟨_, .inl rfl, q⟩
end
end DL

set_option Elab.async false
set_option linter.all false
set_option maxRecDepth 100000
set_option maxHeartbeats 1200000
namespace WP
open PySem L2 DL
/-! ### what the top has written, and the law's own head -/
theorem law_imp {K : PySem.W.Frag} {C : Addr} {vs : List V} {H : Hp} {Q : VK} {E : XK} (h : spLaw K vs H Q E) : spD K C fxLaw vs H Q E := by
  obtain ⟨a, ns, rfl, hs, hl, q⟩ := h
  refine ⟨H, [.scr ns], fun d => d = .bl true, Same.refl H, ⟨_, _, rfl, ⟨a, rfl, hs⟩, rfl⟩, ⟨ns, rfl, hl, rfl⟩, fun d hd H' Hf' v _ _ _ _ hv => ?_⟩
  subst hd
  have hv : v = .bl true := hv
  subst hv
  exact q H'
theorem fund_mk {K : PySem.W.Frag} {x qual : Str} {st : Stmt} {f T : Addr} {oc ocT : Value} {od an odT : Option Addr} {osl slT : Array (Option Value)} {nT : Nat} {kV doc pm cdv ct : Value}
    (l : K.lookup f = some ⟨oc, od, .func (PySem.W.fnOf x qual (defArgs st) (defBody st) (defScope st) (.ref T) kV doc pm an cdv ct), osl⟩) (d : K.lookup T = some ⟨ocT, odT, .seq [Value.bool false].toArray nT, slT⟩) (c : PySem.W.codeIn K cdv qual = true) (k : PySem.W.keepIn K (.ref f) = true) :
    FunD K x qual (defArgs st) (defBody st) (defScope st) [V.bl false] [] f (PySem.W.fnOf x qual (defArgs st) (defBody st) (defScope st) (.ref T) kV doc pm an cdv ct) := by
  have r : Vals [V.bl false] [Value.bool false] := .cons rfl .nil
  have hd : DflV K (.ref T) [V.bl false] := Or.inr ⟨List.cons_ne_nil _ _, T, _, [Value.bool false], nT, rfl, d, rfl, r⟩
  exact ⟨⟨oc, od, .ref T, kV, doc, pm, an, cdv, ct, osl, rfl, l, c, hd, Or.inl rfl⟩, k⟩
theorem all_mk {l : PySem.W.OpenLaw} {w : World} {K : PySem.W.Frag} {h : Heap} {mg : Str → Option Value} {fa C : Addr} {tA : Tok}
    {oc__law_take kV__law_take dc__law_take pm__law_take cd__law_take ct__law_take oc__law_box kV__law_box dc__law_box pm__law_box cd__law_box ct__law_box oc_is_integer kV_is_integer dc_is_integer pm_is_integer cd_is_integer ct_is_integer oc_is_between kV_is_between dc_is_between pm_is_between cd_is_between ct_is_between oc_is_sequence kV_is_sequence dc_is_sequence pm_is_sequence cd_is_sequence ct_is_sequence oc_count_of kV_count_of dc_count_of pm_count_of cd_count_of ct_count_of oc_texts_of kV_texts_of dc_texts_of pm_texts_of cd_texts_of ct_texts_of oc_number_of kV_number_of dc_number_of pm_number_of cd_number_of ct_number_of oc_check_letters kV_check_letters dc_check_letters pm_check_letters cd_check_letters ct_check_letters oc__check_sizes kV__check_sizes dc__check_sizes pm__check_sizes cd__check_sizes ct__check_sizes oc__is_table kV__is_table dc__is_table pm__is_table cd__is_table ct__is_table oc_I kV_I dc_I pm_I cd_I ct_I oc_Rule_offset kV_Rule_offset dc_Rule_offset pm_Rule_offset cd_Rule_offset ct_Rule_offset oc_picks kV_picks dc_picks pm_picks cd_picks ct_picks oc__pieces kV__pieces dc__pieces pm__pieces cd__pieces ct__pieces oc__least_offset kV__least_offset dc__least_offset pm__least_offset cd__least_offset ct__least_offset oc__is_order kV__is_order dc__is_order pm__is_order cd__is_order ct__is_order oc_Rule_by_order kV_Rule_by_order dc_Rule_by_order pm_Rule_by_order cd_Rule_by_order ct_Rule_by_order ocT_Rule_by_order oc_Rule_turned kV_Rule_turned dc_Rule_turned pm_Rule_turned cd_Rule_turned ct_Rule_turned oc_moved kV_moved dc_moved pm_moved cd_moved ct_moved oc_most_moved kV_most_moved dc_most_moved pm_most_moved cd_most_moved ct_most_moved oc_greatest_moved kV_greatest_moved dc_greatest_moved pm_greatest_moved cd_greatest_moved ct_greatest_moved oc_law kV_law dc_law pm_law cd_law ct_law : Value}
    {od__law_take an__law_take od__law_box an__law_box od_is_integer an_is_integer od_is_between an_is_between od_is_sequence an_is_sequence od_count_of an_count_of od_texts_of an_texts_of od_number_of an_number_of od_check_letters an_check_letters od__check_sizes an__check_sizes od__is_table an__is_table od_I an_I od_Rule_offset an_Rule_offset od_picks an_picks od__pieces an__pieces od__least_offset an__least_offset od__is_order an__is_order od_Rule_by_order an_Rule_by_order odT_Rule_by_order od_Rule_turned an_Rule_turned od_moved an_moved od_most_moved an_most_moved od_greatest_moved an_greatest_moved od_law an_law : Option Addr}
    {sl__law_take sl__law_box sl_is_integer sl_is_between sl_is_sequence sl_count_of sl_texts_of sl_number_of sl_check_letters sl__check_sizes sl__is_table sl_I sl_Rule_offset sl_picks sl__pieces sl__least_offset sl__is_order sl_Rule_by_order slT_Rule_by_order sl_Rule_turned sl_moved sl_most_moved sl_greatest_moved sl_law : Array (Option Value)}
    {f__law_take f__law_box f_is_integer f_is_between f_is_sequence f_count_of f_texts_of f_number_of f_check_letters f__check_sizes f__is_table f_I f_Rule_offset f_picks f__pieces f__least_offset f__is_order f_Rule_by_order p_Rule_by_order T_Rule_by_order f_Rule_turned p_Rule_turned f_moved f_most_moved f_greatest_moved f_law : Addr}
    {rs_Rule_by_order rs_Rule_turned : List Value}
    {nT_Rule_by_order : Nat}
    (KX : K.In h) (NS : h.Ns mainGlobals mg) (hfa : mg "law" = some (.ref fa))
    (aC : PySem.W.nsIn K mainGlobals "Rule" = some (some (.ref C)))
    (aA : PySem.W.nsIn K mainGlobals "ALPHABET" = some (some (.str "abcd" tA)))
    (a__law_take : PySem.W.nsIn K mainGlobals "_law_take" = some (some (.ref f__law_take)))
    (l__law_take : K.lookup f__law_take = some ⟨oc__law_take, od__law_take, .func (PySem.W.fnOf "_law_take" "_law_take" (defArgs s_take) (defBody s_take) (defScope s_take) .none kV__law_take dc__law_take pm__law_take an__law_take cd__law_take ct__law_take), sl__law_take⟩)
    (c__law_take : PySem.W.codeIn K cd__law_take "_law_take" = true)
    (k__law_take : PySem.W.keepIn K (.ref f__law_take) = true)
    (a__law_box : PySem.W.nsIn K mainGlobals "_law_box" = some (some (.ref f__law_box)))
    (l__law_box : K.lookup f__law_box = some ⟨oc__law_box, od__law_box, .func (PySem.W.fnOf "_law_box" "_law_box" (defArgs s_box) (defBody s_box) (defScope s_box) .none kV__law_box dc__law_box pm__law_box an__law_box cd__law_box ct__law_box), sl__law_box⟩)
    (c__law_box : PySem.W.codeIn K cd__law_box "_law_box" = true)
    (k__law_box : PySem.W.keepIn K (.ref f__law_box) = true)
    (a_is_integer : PySem.W.nsIn K mainGlobals "is_integer" = some (some (.ref f_is_integer)))
    (l_is_integer : K.lookup f_is_integer = some ⟨oc_is_integer, od_is_integer, .func (PySem.W.fnOf "is_integer" "is_integer" (defArgs s_is_integer) (defBody s_is_integer) (defScope s_is_integer) .none kV_is_integer dc_is_integer pm_is_integer an_is_integer cd_is_integer ct_is_integer), sl_is_integer⟩)
    (c_is_integer : PySem.W.codeIn K cd_is_integer "is_integer" = true)
    (k_is_integer : PySem.W.keepIn K (.ref f_is_integer) = true)
    (a_is_between : PySem.W.nsIn K mainGlobals "is_between" = some (some (.ref f_is_between)))
    (l_is_between : K.lookup f_is_between = some ⟨oc_is_between, od_is_between, .func (PySem.W.fnOf "is_between" "is_between" (defArgs s_is_between) (defBody s_is_between) (defScope s_is_between) .none kV_is_between dc_is_between pm_is_between an_is_between cd_is_between ct_is_between), sl_is_between⟩)
    (c_is_between : PySem.W.codeIn K cd_is_between "is_between" = true)
    (k_is_between : PySem.W.keepIn K (.ref f_is_between) = true)
    (a_is_sequence : PySem.W.nsIn K mainGlobals "is_sequence" = some (some (.ref f_is_sequence)))
    (l_is_sequence : K.lookup f_is_sequence = some ⟨oc_is_sequence, od_is_sequence, .func (PySem.W.fnOf "is_sequence" "is_sequence" (defArgs s_is_sequence) (defBody s_is_sequence) (defScope s_is_sequence) .none kV_is_sequence dc_is_sequence pm_is_sequence an_is_sequence cd_is_sequence ct_is_sequence), sl_is_sequence⟩)
    (c_is_sequence : PySem.W.codeIn K cd_is_sequence "is_sequence" = true)
    (k_is_sequence : PySem.W.keepIn K (.ref f_is_sequence) = true)
    (a_count_of : PySem.W.nsIn K mainGlobals "count_of" = some (some (.ref f_count_of)))
    (l_count_of : K.lookup f_count_of = some ⟨oc_count_of, od_count_of, .func (PySem.W.fnOf "count_of" "count_of" (defArgs s_count_of) (defBody s_count_of) (defScope s_count_of) .none kV_count_of dc_count_of pm_count_of an_count_of cd_count_of ct_count_of), sl_count_of⟩)
    (c_count_of : PySem.W.codeIn K cd_count_of "count_of" = true)
    (k_count_of : PySem.W.keepIn K (.ref f_count_of) = true)
    (a_texts_of : PySem.W.nsIn K mainGlobals "texts_of" = some (some (.ref f_texts_of)))
    (l_texts_of : K.lookup f_texts_of = some ⟨oc_texts_of, od_texts_of, .func (PySem.W.fnOf "texts_of" "texts_of" (defArgs s_texts_of) (defBody s_texts_of) (defScope s_texts_of) .none kV_texts_of dc_texts_of pm_texts_of an_texts_of cd_texts_of ct_texts_of), sl_texts_of⟩)
    (c_texts_of : PySem.W.codeIn K cd_texts_of "texts_of" = true)
    (k_texts_of : PySem.W.keepIn K (.ref f_texts_of) = true)
    (a_number_of : PySem.W.nsIn K mainGlobals "number_of" = some (some (.ref f_number_of)))
    (l_number_of : K.lookup f_number_of = some ⟨oc_number_of, od_number_of, .func (PySem.W.fnOf "number_of" "number_of" (defArgs s_number_of) (defBody s_number_of) (defScope s_number_of) .none kV_number_of dc_number_of pm_number_of an_number_of cd_number_of ct_number_of), sl_number_of⟩)
    (c_number_of : PySem.W.codeIn K cd_number_of "number_of" = true)
    (k_number_of : PySem.W.keepIn K (.ref f_number_of) = true)
    (a_check_letters : PySem.W.nsIn K mainGlobals "check_letters" = some (some (.ref f_check_letters)))
    (l_check_letters : K.lookup f_check_letters = some ⟨oc_check_letters, od_check_letters, .func (PySem.W.fnOf "check_letters" "check_letters" (defArgs s_check_letters) (defBody s_check_letters) (defScope s_check_letters) .none kV_check_letters dc_check_letters pm_check_letters an_check_letters cd_check_letters ct_check_letters), sl_check_letters⟩)
    (c_check_letters : PySem.W.codeIn K cd_check_letters "check_letters" = true)
    (k_check_letters : PySem.W.keepIn K (.ref f_check_letters) = true)
    (a__check_sizes : PySem.W.nsIn K mainGlobals "_check_sizes" = some (some (.ref f__check_sizes)))
    (l__check_sizes : K.lookup f__check_sizes = some ⟨oc__check_sizes, od__check_sizes, .func (PySem.W.fnOf "_check_sizes" "_check_sizes" (defArgs s_check_sizes) (defBody s_check_sizes) (defScope s_check_sizes) .none kV__check_sizes dc__check_sizes pm__check_sizes an__check_sizes cd__check_sizes ct__check_sizes), sl__check_sizes⟩)
    (c__check_sizes : PySem.W.codeIn K cd__check_sizes "_check_sizes" = true)
    (k__check_sizes : PySem.W.keepIn K (.ref f__check_sizes) = true)
    (a__is_table : PySem.W.nsIn K mainGlobals "_is_table" = some (some (.ref f__is_table)))
    (l__is_table : K.lookup f__is_table = some ⟨oc__is_table, od__is_table, .func (PySem.W.fnOf "_is_table" "_is_table" (defArgs s_is_table) (defBody s_is_table) (defScope s_is_table) .none kV__is_table dc__is_table pm__is_table an__is_table cd__is_table ct__is_table), sl__is_table⟩)
    (c__is_table : PySem.W.codeIn K cd__is_table "_is_table" = true)
    (k__is_table : PySem.W.keepIn K (.ref f__is_table) = true)
    (a_I : PySem.W.findIn K (.ref C) "__init__" = some (some (.ref f_I)))
    (i_I : PySem.W.isFn K (.ref f_I) = true)
    (l_I : K.lookup f_I = some ⟨oc_I, od_I, .func (PySem.W.fnOf "__init__" "Rule.__init__" (defArgs s_init) (defBody s_init) (defScope s_init) .none kV_I dc_I pm_I an_I cd_I ct_I), sl_I⟩)
    (c_I : PySem.W.codeIn K cd_I "Rule.__init__" = true)
    (k_I : PySem.W.keepIn K (.ref f_I) = true)
    (a_Rule_offset : PySem.W.findIn K (.ref C) "offset" = some (some (.ref f_Rule_offset)))
    (i_Rule_offset : PySem.W.isFn K (.ref f_Rule_offset) = true)
    (l_Rule_offset : K.lookup f_Rule_offset = some ⟨oc_Rule_offset, od_Rule_offset, .func (PySem.W.fnOf "offset" "Rule.offset" (defArgs s_offset) (defBody s_offset) (defScope s_offset) .none kV_Rule_offset dc_Rule_offset pm_Rule_offset an_Rule_offset cd_Rule_offset ct_Rule_offset), sl_Rule_offset⟩)
    (c_Rule_offset : PySem.W.codeIn K cd_Rule_offset "Rule.offset" = true)
    (k_Rule_offset : PySem.W.keepIn K (.ref f_Rule_offset) = true)
    (a_picks : PySem.W.nsIn K mainGlobals "picks" = some (some (.ref f_picks)))
    (l_picks : K.lookup f_picks = some ⟨oc_picks, od_picks, .func (PySem.W.fnOf "picks" "picks" (defArgs s_picks) (defBody s_picks) (defScope s_picks) .none kV_picks dc_picks pm_picks an_picks cd_picks ct_picks), sl_picks⟩)
    (c_picks : PySem.W.codeIn K cd_picks "picks" = true)
    (k_picks : PySem.W.keepIn K (.ref f_picks) = true)
    (a__pieces : PySem.W.nsIn K mainGlobals "_pieces" = some (some (.ref f__pieces)))
    (l__pieces : K.lookup f__pieces = some ⟨oc__pieces, od__pieces, .func (PySem.W.fnOf "_pieces" "_pieces" (defArgs s__pieces) (defBody s__pieces) (defScope s__pieces) .none kV__pieces dc__pieces pm__pieces an__pieces cd__pieces ct__pieces), sl__pieces⟩)
    (c__pieces : PySem.W.codeIn K cd__pieces "_pieces" = true)
    (k__pieces : PySem.W.keepIn K (.ref f__pieces) = true)
    (a__least_offset : PySem.W.nsIn K mainGlobals "_least_offset" = some (some (.ref f__least_offset)))
    (l__least_offset : K.lookup f__least_offset = some ⟨oc__least_offset, od__least_offset, .func (PySem.W.fnOf "_least_offset" "_least_offset" (defArgs s__least_offset) (defBody s__least_offset) (defScope s__least_offset) .none kV__least_offset dc__least_offset pm__least_offset an__least_offset cd__least_offset ct__least_offset), sl__least_offset⟩)
    (c__least_offset : PySem.W.codeIn K cd__least_offset "_least_offset" = true)
    (k__least_offset : PySem.W.keepIn K (.ref f__least_offset) = true)
    (a__is_order : PySem.W.nsIn K mainGlobals "_is_order" = some (some (.ref f__is_order)))
    (l__is_order : K.lookup f__is_order = some ⟨oc__is_order, od__is_order, .func (PySem.W.fnOf "_is_order" "_is_order" (defArgs s__is_order) (defBody s__is_order) (defScope s__is_order) .none kV__is_order dc__is_order pm__is_order an__is_order cd__is_order ct__is_order), sl__is_order⟩)
    (c__is_order : PySem.W.codeIn K cd__is_order "_is_order" = true)
    (k__is_order : PySem.W.keepIn K (.ref f__is_order) = true)
    (a_Rule_by_order : PySem.W.findCls K (.ref C) (.type "type") "by_order" = some (.get (.builtin "classmethod.__get__") (.ref p_Rule_by_order) .none (.ref C)))
    (r_Rule_by_order : PySem.W.recIn K p_Rule_by_order "classmethod" = some (.ref f_Rule_by_order :: rs_Rule_by_order))
    (i_Rule_by_order : PySem.W.fnIn K f_Rule_by_order = true)
    (l_Rule_by_order : K.lookup f_Rule_by_order = some ⟨oc_Rule_by_order, od_Rule_by_order, .func (PySem.W.fnOf "by_order" "Rule.by_order" (defArgs s_Rule_by_order) (defBody s_Rule_by_order) (defScope s_Rule_by_order) (.ref T_Rule_by_order) kV_Rule_by_order dc_Rule_by_order pm_Rule_by_order an_Rule_by_order cd_Rule_by_order ct_Rule_by_order), sl_Rule_by_order⟩)
    (d_Rule_by_order : K.lookup T_Rule_by_order = some ⟨ocT_Rule_by_order, odT_Rule_by_order, .seq [Value.bool false].toArray nT_Rule_by_order, slT_Rule_by_order⟩)
    (c_Rule_by_order : PySem.W.codeIn K cd_Rule_by_order "Rule.by_order" = true)
    (k_Rule_by_order : PySem.W.keepIn K (.ref f_Rule_by_order) = true)
    (a_Rule_turned : PySem.W.findIn K (.ref C) "turned" = some (some (.ref p_Rule_turned)))
    (g_Rule_turned : PySem.W.specialIn K (.ref p_Rule_turned) "__get__" = some (some (.builtin "property.__get__")))
    (t_Rule_turned : PySem.W.takesIn K (.ref p_Rule_turned) = some true)
    (r_Rule_turned : PySem.W.recIn K p_Rule_turned "property" = some (.ref f_Rule_turned :: rs_Rule_turned))
    (l_Rule_turned : K.lookup f_Rule_turned = some ⟨oc_Rule_turned, od_Rule_turned, .func (PySem.W.fnOf "turned" "Rule.turned" (defArgs s_Rule_turned) (defBody s_Rule_turned) (defScope s_Rule_turned) .none kV_Rule_turned dc_Rule_turned pm_Rule_turned an_Rule_turned cd_Rule_turned ct_Rule_turned), sl_Rule_turned⟩)
    (c_Rule_turned : PySem.W.codeIn K cd_Rule_turned "Rule.turned" = true)
    (k_Rule_turned : PySem.W.keepIn K (.ref f_Rule_turned) = true)
    (a_moved : PySem.W.nsIn K mainGlobals "moved" = some (some (.ref f_moved)))
    (l_moved : K.lookup f_moved = some ⟨oc_moved, od_moved, .func (PySem.W.fnOf "moved" "moved" (defArgs s_moved) (defBody s_moved) (defScope s_moved) .none kV_moved dc_moved pm_moved an_moved cd_moved ct_moved), sl_moved⟩)
    (c_moved : PySem.W.codeIn K cd_moved "moved" = true)
    (k_moved : PySem.W.keepIn K (.ref f_moved) = true)
    (a_most_moved : PySem.W.nsIn K mainGlobals "most_moved" = some (some (.ref f_most_moved)))
    (l_most_moved : K.lookup f_most_moved = some ⟨oc_most_moved, od_most_moved, .func (PySem.W.fnOf "most_moved" "most_moved" (defArgs s_most_moved) (defBody s_most_moved) (defScope s_most_moved) .none kV_most_moved dc_most_moved pm_most_moved an_most_moved cd_most_moved ct_most_moved), sl_most_moved⟩)
    (c_most_moved : PySem.W.codeIn K cd_most_moved "most_moved" = true)
    (k_most_moved : PySem.W.keepIn K (.ref f_most_moved) = true)
    (a_greatest_moved : PySem.W.nsIn K mainGlobals "greatest_moved" = some (some (.ref f_greatest_moved)))
    (l_greatest_moved : K.lookup f_greatest_moved = some ⟨oc_greatest_moved, od_greatest_moved, .func (PySem.W.fnOf "greatest_moved" "greatest_moved" (defArgs s_greatest_moved) (defBody s_greatest_moved) (defScope s_greatest_moved) .none kV_greatest_moved dc_greatest_moved pm_greatest_moved an_greatest_moved cd_greatest_moved ct_greatest_moved), sl_greatest_moved⟩)
    (c_greatest_moved : PySem.W.codeIn K cd_greatest_moved "greatest_moved" = true)
    (k_greatest_moved : PySem.W.keepIn K (.ref f_greatest_moved) = true)
    (a_law : PySem.W.nsIn K mainGlobals "law" = some (some (.ref f_law)))
    (l_law : K.lookup f_law = some ⟨oc_law, od_law, .func (PySem.W.fnOf "law" "law" (defArgs s_law) (defBody s_law) (defScope s_law) .none kV_law dc_law pm_law an_law cd_law ct_law), sl_law⟩)
    (c_law : PySem.W.codeIn K cd_law "law" = true)
    (k_law : PySem.W.keepIn K (.ref f_law) = true)
    (pg : PySem.W.plainGet K C Str.empty = true)
    (hd : PySem.W.hasDictIn K C = true)
    (po : PySem.W.plainOver K C = true)
    (sa : PySem.W.findIn K (.ref C) "__setattr__" = some (some (.builtin "object.__setattr__")))
    (mk : PySem.W.makesIn K C = true)
    (kc : PySem.W.keepIn K (.ref C) = true)
    (n_letters : PySem.W.findIn K (.ref C) "letters" = some none)
    (n_w : PySem.W.findIn K (.ref C) "w" = some none)
    (n_k : PySem.W.findIn K (.ref C) "k" = some none)
    (n_table : PySem.W.findIn K (.ref C) "table" = some none)
    (z_len : PySem.W.nsIn K mainGlobals "len" = some none)
    (z_range : PySem.W.nsIn K mainGlobals "range" = some none)
    (z_max : PySem.W.nsIn K mainGlobals "max" = some none)
    (z_min : PySem.W.nsIn K mainGlobals "min" = some none)
    (z_int : PySem.W.nsIn K mainGlobals "int" = some none)
    (z_abs : PySem.W.nsIn K mainGlobals "abs" = some none)
    (z_list : PySem.W.nsIn K mainGlobals "list" = some none)
    (z_tuple : PySem.W.nsIn K mainGlobals "tuple" = some none)
    (z_enumerate : PySem.W.nsIn K mainGlobals "enumerate" = some none)
    (z_isinstance : PySem.W.nsIn K mainGlobals "isinstance" = some none)
    (z_bool : PySem.W.nsIn K mainGlobals "bool" = some none)
    (z_str : PySem.W.nsIn K mainGlobals "str" = some none)
    (z_all : PySem.W.nsIn K mainGlobals "all" = some none)
    (z_set : PySem.W.nsIn K mainGlobals "set" = some none)
    (z_sorted : PySem.W.nsIn K mainGlobals "sorted" = some none)
    (rdC : PySem.W.readsIn K C (.type "type") = true)
    (gaC : PySem.W.specialIn K (.ref C) "__getattribute__" = some (some (.builtin "type.__getattribute__"))) :
    ∃ fd : FuncData, (∀ (s : Shared) (v : Value), BindsTo s fd ⟨[v], []⟩ [("_law_script", v)]) ∧ ∀ base : Heap, K.In base → base.Ns mainGlobals mg → FnOk l.prog w K mg base CX0 8 fa fd ["_law_script"] (spLaw K) := by
  have efa := hfa.symm.trans (PySem.W.mg_of KX NS a_law)
  cases efa
  have T : RTxt K mg C := ⟨⟨pg, hd, po, sa⟩, n_letters, n_w, n_k, n_table, PySem.W.mg_of KX NS aC⟩
  have gA : ∃ u, mg "ALPHABET" = some u ∧ RelV (.str "abcd") u := ⟨_, PySem.W.mg_of KX NS aA, tA, rfl⟩
  have m_len : mg "len" = none := PySem.W.mg_none_of KX NS z_len
  have m_range : mg "range" = none := PySem.W.mg_none_of KX NS z_range
  have m_max : mg "max" = none := PySem.W.mg_none_of KX NS z_max
  have m_min : mg "min" = none := PySem.W.mg_none_of KX NS z_min
  have m_int : mg "int" = none := PySem.W.mg_none_of KX NS z_int
  have m_abs : mg "abs" = none := PySem.W.mg_none_of KX NS z_abs
  have m_list : mg "list" = none := PySem.W.mg_none_of KX NS z_list
  have m_tuple : mg "tuple" = none := PySem.W.mg_none_of KX NS z_tuple
  have m_enumerate : mg "enumerate" = none := PySem.W.mg_none_of KX NS z_enumerate
  have m_isinstance : mg "isinstance" = none := PySem.W.mg_none_of KX NS z_isinstance
  have m_bool : mg "bool" = none := PySem.W.mg_none_of KX NS z_bool
  have m_str : mg "str" = none := PySem.W.mg_none_of KX NS z_str
  have m_all : mg "all" = none := PySem.W.mg_none_of KX NS z_all
  have m_set : mg "set" = none := PySem.W.mg_none_of KX NS z_set
  have m_sorted : mg "sorted" = none := PySem.W.mg_none_of KX NS z_sorted
  have r_C : ClX.CRead K C (.type "type") := ⟨rdC, gaC⟩
  have F__law_take := fun_mk (st := s_take) l__law_take c__law_take k__law_take
  have b__law_take := F__law_take.binds (ps := ["_law_box_here", "_law_many"]) fun _ _ _ _ _ _ us hl => match us, hl with | [_, _], _ => rfl
  have mg__law_take := PySem.W.mg_of KX NS a__law_take
  have F__law_box := fun_mk (st := s_box) l__law_box c__law_box k__law_box
  have b__law_box := F__law_box.binds (ps := ["_law_script", "_law_k", "_law_own"]) fun _ _ _ _ _ _ us hl => match us, hl with | [_, _, _], _ => rfl
  have mg__law_box := PySem.W.mg_of KX NS a__law_box
  have F_is_integer := fun_mk (st := s_is_integer) l_is_integer c_is_integer k_is_integer
  have b_is_integer := F_is_integer.binds (ps := ["value"]) fun _ _ _ _ _ _ us hl => match us, hl with | [_], _ => rfl
  have mg_is_integer := PySem.W.mg_of KX NS a_is_integer
  have F_is_between := fun_mk (st := s_is_between) l_is_between c_is_between k_is_between
  have b_is_between := F_is_between.binds (ps := ["value", "low", "high"]) fun _ _ _ _ _ _ us hl => match us, hl with | [_, _, _], _ => rfl
  have mg_is_between := PySem.W.mg_of KX NS a_is_between
  have F_is_sequence := fun_mk (st := s_is_sequence) l_is_sequence c_is_sequence k_is_sequence
  have b_is_sequence := F_is_sequence.binds (ps := ["value"]) fun _ _ _ _ _ _ us hl => match us, hl with | [_], _ => rfl
  have mg_is_sequence := PySem.W.mg_of KX NS a_is_sequence
  have F_count_of := fun_mk (st := s_count_of) l_count_of c_count_of k_count_of
  have b_count_of := F_count_of.binds (ps := ["letters", "length"]) fun _ _ _ _ _ _ us hl => match us, hl with | [_, _], _ => rfl
  have mg_count_of := PySem.W.mg_of KX NS a_count_of
  have F_texts_of := fun_mk (st := s_texts_of) l_texts_of c_texts_of k_texts_of
  have b_texts_of := F_texts_of.binds (ps := ["letters", "length"]) fun _ _ _ _ _ _ us hl => match us, hl with | [_, _], _ => rfl
  have mg_texts_of := PySem.W.mg_of KX NS a_texts_of
  have F_number_of := fun_mk (st := s_number_of) l_number_of c_number_of k_number_of
  have b_number_of := F_number_of.binds (ps := ["letters", "text"]) fun _ _ _ _ _ _ us hl => match us, hl with | [_, _], _ => rfl
  have mg_number_of := PySem.W.mg_of KX NS a_number_of
  have F_check_letters := fun_mk (st := s_check_letters) l_check_letters c_check_letters k_check_letters
  have b_check_letters := F_check_letters.binds (ps := ["letters", "text"]) fun _ _ _ _ _ _ us hl => match us, hl with | [_, _], _ => rfl
  have mg_check_letters := PySem.W.mg_of KX NS a_check_letters
  have F__check_sizes := fun_mk (st := s_check_sizes) l__check_sizes c__check_sizes k__check_sizes
  have b__check_sizes := F__check_sizes.binds (ps := ["letters", "w", "k"]) fun _ _ _ _ _ _ us hl => match us, hl with | [_, _, _], _ => rfl
  have mg__check_sizes := PySem.W.mg_of KX NS a__check_sizes
  have F__is_table := fun_mk (st := s_is_table) l__is_table c__is_table k__is_table
  have b__is_table := F__is_table.binds (ps := ["letters", "w", "k", "table"]) fun _ _ _ _ _ _ us hl => match us, hl with | [_, _, _, _], _ => rfl
  have mg__is_table := PySem.W.mg_of KX NS a__is_table
  have F_I := fun_mk (st := s_init) l_I c_I k_I
  have b_I := F_I.binds (ps := ["self", "letters", "w", "k", "table"]) fun _ _ _ _ _ _ us hl => match us, hl with | [_, _, _, _, _], _ => rfl
  have F_Rule_offset := fun_mk (st := s_offset) l_Rule_offset c_Rule_offset k_Rule_offset
  have b_Rule_offset := F_Rule_offset.binds (ps := ["self", "window"]) fun _ _ _ _ _ _ us hl => match us, hl with | [_, _], _ => rfl
  have mt_Rule_offset : Meth K C "offset" f_Rule_offset := ⟨a_Rule_offset, i_Rule_offset, k_Rule_offset⟩
  have F_picks := fun_mk (st := s_picks) l_picks c_picks k_picks
  have b_picks := F_picks.binds (ps := ["rule", "text"]) fun _ _ _ _ _ _ us hl => match us, hl with | [_, _], _ => rfl
  have mg_picks := PySem.W.mg_of KX NS a_picks
  have F__pieces := fun_mk (st := s__pieces) l__pieces c__pieces k__pieces
  have b__pieces := F__pieces.binds (ps := ["window", "w", "k"]) fun _ _ _ _ _ _ us hl => match us, hl with | [_, _, _], _ => rfl
  have mg__pieces := PySem.W.mg_of KX NS a__pieces
  have F__least_offset := fun_mk (st := s__least_offset) l__least_offset c__least_offset k__least_offset
  have b__least_offset := F__least_offset.binds (ps := ["ranks", "pieces", "last"]) fun _ _ _ _ _ _ us hl => match us, hl with | [_, _, _], _ => rfl
  have mg__least_offset := PySem.W.mg_of KX NS a__least_offset
  have F__is_order := fun_mk (st := s__is_order) l__is_order c__is_order k__is_order
  have b__is_order := F__is_order.binds (ps := ["letters", "k", "order"]) fun _ _ _ _ _ _ us hl => match us, hl with | [_, _, _], _ => rfl
  have mg__is_order := PySem.W.mg_of KX NS a__is_order
  have F_Rule_by_order := fund_mk (st := s_Rule_by_order) l_Rule_by_order d_Rule_by_order c_Rule_by_order k_Rule_by_order
  obtain ⟨ds_Rule_by_order, hd_Rule_by_order, b_Rule_by_order⟩ := F_Rule_by_order.binds1 (ps := ["cls", "letters", "w", "k", "order", "last"]) 5 0 (fun z => by cases z) rfl fun _ _ _ _ _ _ _ us its h1 h2 => match us, its, h1, h2 with | [_, _, _, _, _], [_], _, _ => ⟨_, rfl, rfl⟩
  have F_Rule_turned := fun_mk (st := s_Rule_turned) l_Rule_turned c_Rule_turned k_Rule_turned
  have b_Rule_turned := F_Rule_turned.binds (ps := ["self"]) fun _ _ _ _ _ _ us hl => match us, hl with | [_], _ => rfl
  have pp_Rule_turned : PropOf K C "turned" p_Rule_turned f_Rule_turned := ⟨a_Rule_turned, g_Rule_turned, t_Rule_turned, _, r_Rule_turned⟩
  have F_moved := fun_mk (st := s_moved) l_moved c_moved k_moved
  have b_moved := F_moved.binds (ps := ["rule", "text", "at", "letter"]) fun _ _ _ _ _ _ us hl => match us, hl with | [_, _, _, _], _ => rfl
  have mg_moved := PySem.W.mg_of KX NS a_moved
  have F_most_moved := fun_mk (st := s_most_moved) l_most_moved c_most_moved k_most_moved
  have b_most_moved := F_most_moved.binds (ps := ["rule"]) fun _ _ _ _ _ _ us hl => match us, hl with | [_], _ => rfl
  have mg_most_moved := PySem.W.mg_of KX NS a_most_moved
  have F_greatest_moved := fun_mk (st := s_greatest_moved) l_greatest_moved c_greatest_moved k_greatest_moved
  have b_greatest_moved := F_greatest_moved.binds (ps := ["rule"]) fun _ _ _ _ _ _ us hl => match us, hl with | [_], _ => rfl
  have mg_greatest_moved := PySem.W.mg_of KX NS a_greatest_moved
  have F_law := fun_mk (st := s_law) l_law c_law k_law
  have M : Mk K C f_I := ⟨mk, a_I, i_I, kc⟩
  refine ⟨PySem.W.fnOf "law" "law" (defArgs DL.s_law) (defBody DL.s_law) (defScope DL.s_law) .none kV_law dc_law pm_law an_law cd_law ct_law, fun s v => .of_eq rfl, fun base _ _ => ?_⟩
  have G__law_take := ok_take (P := l.prog) (w := w) (base := base) F__law_take m_int
  have G__law_box := ok_box (P := l.prog) (w := w) (base := base) F__law_box m_int m_len m_abs
  have G_is_integer := ok_integer (P := l.prog) (w := w) (base := base) F_is_integer m_isinstance m_int m_bool
  have G_is_between := ok_between (P := l.prog) (w := w) (base := base) F_is_between G_is_integer k_is_integer b_is_integer mg_is_integer
  have G_is_sequence := ok_seq (P := l.prog) (w := w) (base := base) F_is_sequence m_isinstance m_list m_tuple
  have G_count_of := ok_count (P := l.prog) (w := w) (base := base) F_count_of m_range
  have G_texts_of := ok_texts_of (P := l.prog) (w := w) (base := base) F_texts_of m_range gA
  have G_number_of := ok_number (P := l.prog) (w := w) (base := base) F_number_of gA
  have G_check_letters := ok_check (P := l.prog) (w := w) (base := base) F_check_letters m_isinstance m_str m_enumerate gA
  have G__check_sizes := ok_sizes F__check_sizes G_is_between k_is_between b_is_between mg_is_between
  have G__is_table := ok_is_table F__is_table m_len m_all G_is_between k_is_between b_is_between mg_is_between G_is_sequence k_is_sequence b_is_sequence mg_is_sequence G_count_of k_count_of b_count_of mg_count_of
  have G_I := ok_init F_I T m_tuple G__check_sizes k__check_sizes b__check_sizes mg__check_sizes G__is_table k__is_table b__is_table mg__is_table
  have G_Rule_offset := ok_offset F_Rule_offset T m_isinstance m_str m_len G_check_letters k_check_letters b_check_letters mg_check_letters G_number_of k_number_of b_number_of mg_number_of
  have G_picks := ok_picksV F_picks T m_len m_range m_tuple m_sorted m_set G_check_letters k_check_letters b_check_letters mg_check_letters G_Rule_offset mt_Rule_offset b_Rule_offset
  have G__pieces := DL.ok_pieces (P := l.prog) (w := w) (K := K) (C := C) (mg := mg) (base := base) F__pieces m_range
  have G__least_offset := DL.ok_least (P := l.prog) (w := w) (K := K) (C := C) (mg := mg) (base := base) F__least_offset m_min T
  have G__is_order := DL.ok_is_order (P := l.prog) (w := w) (K := K) (C := C) (mg := mg) (base := base) F__is_order m_sorted m_all m_isinstance m_str G_texts_of k_texts_of b_texts_of mg_texts_of G_is_sequence k_is_sequence b_is_sequence mg_is_sequence
  have G_Rule_by_order := DL.ok_by (P := l.prog) (w := w) (K := K) (C := C) (mg := mg) (base := base) F_Rule_by_order m_enumerate T M G_I b_I G__least_offset k__least_offset b__least_offset mg__least_offset G__pieces k__pieces b__pieces mg__pieces G_texts_of k_texts_of b_texts_of mg_texts_of G__is_order k__is_order b__is_order mg__is_order G__check_sizes k__check_sizes b__check_sizes mg__check_sizes
  have G_Rule_turned := DL.ok_turned (P := l.prog) (w := w) (K := K) (C := C) (mg := mg) (base := base) F_Rule_turned T M G_I b_I G_Rule_offset mt_Rule_offset b_Rule_offset G_texts_of k_texts_of b_texts_of mg_texts_of
  have G_moved := DL.ok_moved (P := l.prog) (w := w) (K := K) (C := C) (mg := mg) (base := base) F_moved m_tuple G_picks k_picks b_picks mg_picks
  have G_most_moved := DL.ok_most (P := l.prog) (w := w) (K := K) (C := C) (mg := mg) (base := base) F_most_moved m_len T gA G_texts_of k_texts_of b_texts_of mg_texts_of G_moved k_moved b_moved mg_moved
  have G_greatest_moved := DL.ok_greatest (P := l.prog) (w := w) (K := K) (C := C) (mg := mg) (base := base) F_greatest_moved G_most_moved k_most_moved b_most_moved mg_most_moved
  exact (DL.ok_law (P := l.prog) (w := w) (K := K) (C := C) (mg := mg) (base := base) F_law m_range m_max m_min m_len T M G_I b_I G_moved k_moved b_moved mg_moved G_most_moved k_most_moved b_most_moved mg_most_moved G_greatest_moved k_greatest_moved b_greatest_moved mg_greatest_moved G__law_take k__law_take b__law_take mg__law_take G_Rule_turned pp_Rule_turned b_Rule_turned r_C ⟨a_Rule_by_order, ⟨_, r_Rule_by_order⟩, i_Rule_by_order⟩ (G_Rule_by_order.raw b_Rule_by_order hd_Rule_by_order) G__law_box k__law_box b__law_box mg__law_box).imp fun vs H Q E => law_imp
end WP

set_option Elab.async false
set_option linter.all false
set_option maxRecDepth 100000
set_option maxHeartbeats 1200000
open PySem PySem.W PyProof.Rows
set_option maxRecDepth 100000 in
set_option maxHeartbeats 0 in
theorem PySem.Challenge.cw_windowpicks_k44_edits_known_by_hand_holds : PySem.Challenge.rw_windowpicks_k44_edits_known_by_hand.Holds := by
  w_on; o_law; k_head; (case hw => w_witness2)
  k_fill
  refine L2.walk_of (l := PySem.Challenge.rw_windowpicks_k44_edits_known_by_hand) (n := 63) (k := 8) (x := "_law_script") (CX := fun _ => L2.CX0) (sp := fun w => WP.spLaw _) rfl (by decide) rfl ⟨rfl, by decide, by decide⟩ (fun w h Y => PySem.W.kIn_of Y) ?FF (fun _ _ a ns hl _ hS => ⟨a, ns, rfl, hS, hl, fun _ => rfl⟩) (fun _ _ _ _ _ h => h)
  case FF =>
    intro w mg fa h KX NS hmg
    refine' WP.all_mk KX NS hmg ?aC ?aA ?a__law_take ?l__law_take ?c__law_take ?k__law_take ?a__law_box ?l__law_box ?c__law_box ?k__law_box ?a_is_integer ?l_is_integer ?c_is_integer ?k_is_integer ?a_is_between ?l_is_between ?c_is_between ?k_is_between ?a_is_sequence ?l_is_sequence ?c_is_sequence ?k_is_sequence ?a_count_of ?l_count_of ?c_count_of ?k_count_of ?a_texts_of ?l_texts_of ?c_texts_of ?k_texts_of ?a_number_of ?l_number_of ?c_number_of ?k_number_of ?a_check_letters ?l_check_letters ?c_check_letters ?k_check_letters ?a__check_sizes ?l__check_sizes ?c__check_sizes ?k__check_sizes ?a__is_table ?l__is_table ?c__is_table ?k__is_table ?a_I ?i_I ?l_I ?c_I ?k_I ?a_Rule_offset ?i_Rule_offset ?l_Rule_offset ?c_Rule_offset ?k_Rule_offset ?a_picks ?l_picks ?c_picks ?k_picks ?a__pieces ?l__pieces ?c__pieces ?k__pieces ?a__least_offset ?l__least_offset ?c__least_offset ?k__least_offset ?a__is_order ?l__is_order ?c__is_order ?k__is_order ?a_Rule_by_order ?r_Rule_by_order ?i_Rule_by_order ?l_Rule_by_order ?d_Rule_by_order ?c_Rule_by_order ?k_Rule_by_order ?a_Rule_turned ?g_Rule_turned ?t_Rule_turned ?r_Rule_turned ?l_Rule_turned ?c_Rule_turned ?k_Rule_turned ?a_moved ?l_moved ?c_moved ?k_moved ?a_most_moved ?l_most_moved ?c_most_moved ?k_most_moved ?a_greatest_moved ?l_greatest_moved ?c_greatest_moved ?k_greatest_moved ?a_law ?l_law ?c_law ?k_law ?pg ?hd ?po ?sa ?mk ?kc ?n_letters ?n_w ?n_k ?n_table ?z_len ?z_range ?z_max ?z_min ?z_int ?z_abs ?z_list ?z_tuple ?z_enumerate ?z_isinstance ?z_bool ?z_str ?z_all ?z_set ?z_sorted ?rdC ?gaC
    (case aC => k_is)
    (case aA => k_is)
    (case a__law_take => k_is)
    (case l__law_take => k_is)
    (case c__law_take => k_is)
    (case k__law_take => k_is)
    (case a__law_box => k_is)
    (case l__law_box => k_is)
    (case c__law_box => k_is)
    (case k__law_box => k_is)
    (case a_is_integer => k_is)
    (case l_is_integer => k_is)
    (case c_is_integer => k_is)
    (case k_is_integer => k_is)
    (case a_is_between => k_is)
    (case l_is_between => k_is)
    (case c_is_between => k_is)
    (case k_is_between => k_is)
    (case a_is_sequence => k_is)
    (case l_is_sequence => k_is)
    (case c_is_sequence => k_is)
    (case k_is_sequence => k_is)
    (case a_count_of => k_is)
    (case l_count_of => k_is)
    (case c_count_of => k_is)
    (case k_count_of => k_is)
    (case a_texts_of => k_is)
    (case l_texts_of => k_is)
    (case c_texts_of => k_is)
    (case k_texts_of => k_is)
    (case a_number_of => k_is)
    (case l_number_of => k_is)
    (case c_number_of => k_is)
    (case k_number_of => k_is)
    (case a_check_letters => k_is)
    (case l_check_letters => k_is)
    (case c_check_letters => k_is)
    (case k_check_letters => k_is)
    (case a__check_sizes => k_is)
    (case l__check_sizes => k_is)
    (case c__check_sizes => k_is)
    (case k__check_sizes => k_is)
    (case a__is_table => k_is)
    (case l__is_table => k_is)
    (case c__is_table => k_is)
    (case k__is_table => k_is)
    (case a_I => k_is)
    (case i_I => k_is)
    (case l_I => k_is)
    (case c_I => k_is)
    (case k_I => k_is)
    (case a_Rule_offset => k_is)
    (case i_Rule_offset => k_is)
    (case l_Rule_offset => k_is)
    (case c_Rule_offset => k_is)
    (case k_Rule_offset => k_is)
    (case a_picks => k_is)
    (case l_picks => k_is)
    (case c_picks => k_is)
    (case k_picks => k_is)
    (case a__pieces => k_is)
    (case l__pieces => k_is)
    (case c__pieces => k_is)
    (case k__pieces => k_is)
    (case a__least_offset => k_is)
    (case l__least_offset => k_is)
    (case c__least_offset => k_is)
    (case k__least_offset => k_is)
    (case a__is_order => k_is)
    (case l__is_order => k_is)
    (case c__is_order => k_is)
    (case k__is_order => k_is)
    (case a_Rule_by_order => k_is)
    (case r_Rule_by_order => k_is)
    (case i_Rule_by_order => k_is)
    (case l_Rule_by_order => k_is)
    (case d_Rule_by_order => k_is)
    (case c_Rule_by_order => k_is)
    (case k_Rule_by_order => k_is)
    (case a_Rule_turned => k_is)
    (case g_Rule_turned => k_is)
    (case t_Rule_turned => k_is)
    (case r_Rule_turned => k_is)
    (case l_Rule_turned => k_is)
    (case c_Rule_turned => k_is)
    (case k_Rule_turned => k_is)
    (case a_moved => k_is)
    (case l_moved => k_is)
    (case c_moved => k_is)
    (case k_moved => k_is)
    (case a_most_moved => k_is)
    (case l_most_moved => k_is)
    (case c_most_moved => k_is)
    (case k_most_moved => k_is)
    (case a_greatest_moved => k_is)
    (case l_greatest_moved => k_is)
    (case c_greatest_moved => k_is)
    (case k_greatest_moved => k_is)
    (case a_law => k_is)
    (case l_law => k_is)
    (case c_law => k_is)
    (case k_law => k_is)
    (case pg => k_is)
    (case hd => k_is)
    (case po => k_is)
    (case sa => k_is)
    (case mk => k_is)
    (case kc => k_is)
    (case n_letters => k_is)
    (case n_w => k_is)
    (case n_k => k_is)
    (case n_table => k_is)
    (case z_len => k_is)
    (case z_range => k_is)
    (case z_max => k_is)
    (case z_min => k_is)
    (case z_int => k_is)
    (case z_abs => k_is)
    (case z_list => k_is)
    (case z_tuple => k_is)
    (case z_enumerate => k_is)
    (case z_isinstance => k_is)
    (case z_bool => k_is)
    (case z_str => k_is)
    (case z_all => k_is)
    (case z_set => k_is)
    (case z_sorted => k_is)
    (case rdC => k_is)
    (case gaC => k_is)

