import PyProof.Rows.All
import Wide.All
import OpenK.AllK
import Wide.FinOn
import PyProof.EqAt
import PyProof.EqKinds
import PyProof.TupleCall
import Open.SpecLaws
import KE.OsGo
import KE.KExcIs
import HandS.ForSpec
import HandS.ForMost
import HandS.ExcIs
import HandS.RaiseMore
import HandS.Codes
import HandS.Walk
import HandS.Style
import HandS.TupAny
import HandS.TupLe
import HandS.IsInst
import HandS.Text
import HandS.Replace
import PySem.Challenge.RW_windowpicks_k15_places_by_their_surround
import HandS.SetFor
import HandS.Strs
import HandS.SortInts
import PyProof.Rows.SortShellAny
import HandS.Iter
set_option Elab.async false
set_option linter.all false
set_option maxRecDepth 100000
set_option maxHeartbeats 1200000
namespace WP
open L2 PySem PySem.Spec PyProof.Rows
/-! ### enumerate(text): signs with their places -/
def Ies (txt : Str) : It :=
  ⟨fun i _ => i < txt.cps.size, fun i G v H' => ∃ T c, v = .ref T ∧ G T = none ∧ txt.cps[i]? = some c ∧ H' = upd G T (.tup [.int (i : Nat), .str ⟨#[c]⟩]), fun i _ => i = txt.cps.size⟩
theorem turn_enumS {P : Program} {w : World} {K : PySem.W.Frag} {elts : List Expr} {kk : Nat} {tpos : Pos} (e it : Addr) (txt : Str) (t : Tok) :
    Turn P w K (.Tuple elts kk tpos) (Ies txt) [e, it] e (fun i h => (∃ prev, IsEnum h e it ((i : Nat) : Int) prev) ∧ h.IsStrIter it "str_ascii_iterator" txt t i ∧ e ≠ it) where
  mem := by simp
  obj := fun i h now bb hb => by
    obtain ⟨⟨prev, hE⟩, ⟨ob, hOut, cal, dat⟩, _⟩ := now
    have eb : bb = e ∨ bb = it := by simpa using hb
    rcases eb with ez | ez
    · rw [ez]; exact ⟨_, hE, fun v qq => nomatch qq⟩
    · rw [ez]; exact ⟨ob, hOut, fun v qq => by rw [dat] at qq; cases qq⟩
  keep := fun i h h1 now ke => by
    obtain ⟨⟨prev, hE⟩, ⟨ob, hOut, rc⟩, nei⟩ := now
    exact ⟨⟨prev, ke e (by simp) _ hE⟩, ⟨ob, ke it (by simp) _ hOut, rc⟩, nei⟩
  item := by
    intro X eP eW eK cal i pn sh ρ G E J0 fr now here
    subst eP eW eK
    obtain ⟨⟨prev, hE⟩, hI, nei⟩ := now
    have ltE : e < sh.heap.objs.size := Heap.lt_size hE
    have ltI : it < sh.heap.objs.size := by obtain ⟨_, qq, _⟩ := hI; exact Heap.lt_size qq
    have D := Draws.strAscii (prog := X.prog) (w := X.w) (A := X.A.in1) (J0.ok.hd cal) it txt t
    refine wpAny_pyNext_enum_itemD D hE hI here nei (by simpa using nei) fun uu0 h1 tk hU hOut hit' tAt hz kp => ?_
    obtain ⟨c, tk0, hcx, rfl⟩ := hU
    refine ⟨_, rfl, wpAny_letOwnedTupleGo_enum (s := { sh with heap := h1, toks := tk + 1 }) hOut fun h2 hE2 but => ?_⟩
    have tAt2 : h2.get? sh.heap.objs.size = some { cls := .type "tuple", data := .seq #[.int i tk, .str ⟨#[c]⟩ tk0] } := (but.2 _ (Nat.ne_of_gt ltE)).trans tAt
    have newO : ObjOk X.prog X.w (upd G sh.heap.objs.size (.tup [.int (i : Nat), .str ⟨#[c]⟩])) h2 sh.heap.objs.size (.tup [.int (i : Nat), .str ⟨#[c]⟩]) :=
      ⟨by show 2 ≤ sizeLine; decide, [.int i tk, .str ⟨#[c]⟩ tk0], .cons ⟨_, rfl⟩ (.cons ⟨_, rfl⟩ .nil), ⟨_, tAt2, rfl, _, rfl⟩⟩
    have J1 : Inv X pn ρ (upd G sh.heap.objs.size (.tup [.int (i : Nat), .str ⟨#[c]⟩])) { sh with heap := h2, toks := tk + 1 } :=
      J0.turnedNew (ch := [e, it]) (fun bb oo hb qq => (but.2 bb (fun ez => hb (by simp [ez]))).trans (kp bb oo (fun ez => hb (by simp [ez])) (fun ez => hb (by simp [ez])) qq)) fr (Nat.le_refl _) newO
    refine ⟨.ref sh.heap.objs.size, _, J1, rfl, ⟨_, c, rfl, J0.hok.fresh (Nat.le_refl _), hcx, rfl⟩, ⟨⟨.str ⟨#[c]⟩ tk0, ?_⟩, ?_, nei⟩, fun bb hb => ?_⟩
    · have ei : ((i + 1 : Nat) : Int) = (i : Int) + 1 := by omega
      rw [ei]; exact hE2
    · obtain ⟨o2, ho2, r2⟩ := hit'
      exact ⟨o2, (but.2 it (Ne.symm nei)).trans ho2, r2⟩
    · have lb : bb < sh.heap.objs.size := by
        have eb : bb = e ∨ bb = it := by simpa using hb
        rcases eb with ez | ez
        · rw [ez]; exact ltE
        · rw [ez]; exact ltI
      rw [upd_ne (Nat.ne_of_lt lb)]
      exact (fr bb hb).1
  done := by
    intro X eP eW eK cal i pn sh ρ G E J0 fr now here
    subst eP eW eK
    obtain ⟨⟨prev, hE⟩, hI, nei⟩ := now
    obtain ⟨g0, g1, g2, g3, g4, g5⟩ := fr it (by simp)
    have D := Draws.strAscii (prog := X.prog) (w := X.w) (A := X.A.in1) (J0.ok.hd cal) it txt t
    have here : i = txt.cps.size := here
    rw [here] at hI
    exact wpAny_pyNext_enum_endD D hE hI fun h1 eb => ⟨rfl, J0.turned (t' := sh.toks) (fun bb ob hb qq => eb bb ob hb qq) g0 g1 g3 g4 g5⟩
  self := fun A i sh Q E now h => let ⟨⟨_, hE⟩, _⟩ := now; wpAny_pyIter_enum hE h
def iEnumS (ta : TA) : TI := fun ρ G R => ta ρ G fun vs G1 => ∃ txt : Str, vs = [.str txt] ∧ txt.cps.all (· < 128) = true ∧ R (Ies txt) G1
theorem pi_enumS {X : Cx} {e : Expr} {ta : TA} {p pos tpos : Pos} {elts : List Expr} {kk : Nat} (here : Gl X "enumerate") (hm : X.mg "enumerate" = none) (ha : PA X [e] ta) (hs : starEach [e] X.env = [(false, eval e X.env)] := by rfl) :
    PI X (.Tuple elts kk tpos) (.Call (.Name "enumerate" p) [e] [] pos) (iEnumS ta) := by
  refine ⟨fun pn sh ρ G R J0 h => ?_⟩
  refine Call_ (ld_blt J0 here hm boot_enumerate (PyProof.Rows.callWith_type1 (thn (ha.run pos pn sh ρ G _ J0 h) fun uu s1 ⟨vs, G1, J1, ra, qa⟩ => ?_) hs rfl))
  obtain ⟨txt, et, asc, qq⟩ := qa
  subst et
  cases ra with
  | cons rc rb =>
    cases rb
    obtain ⟨t, rfl⟩ := rc
    have ht : strIterType txt = "str_ascii_iterator" := by
      unfold strIterType
      rw [asc]
      rfl
    refine call_enumerate_str fun h1 hE hI hz kp => wpAny_pyIter_enum hE ?_
    rw [ht] at hI
    have J2 : Inv X pn ρ G1 { s1 with heap := h1 } := J1.kept (t' := s1.toks) kp
    refine ⟨s1.heap.objs.size + 1, [s1.heap.objs.size + 1, s1.heap.objs.size], _, _, G1, rfl, J2, turn_enumS (s1.heap.objs.size + 1) s1.heap.objs.size txt t, ⟨⟨.none, hE⟩, hI, Nat.succ_ne_self _⟩, fun bb hb => ?_, qq⟩
    have eb : bb = s1.heap.objs.size + 1 ∨ bb = s1.heap.objs.size := by simpa using hb
    have above : s1.heap.objs.size ≤ bb := by
      rcases eb with ez | ez
      · rw [ez]; exact Nat.le_add_right _ _
      · rw [ez]; exact Nat.le_refl _
    exact J1.fpOk above (J1.hok.fresh above)
theorem walk_enumS {txt : Str} : Walk (Ies txt) txt.cps.size (fun _ => True) (fun i G v H' => ∃ T c, v = .ref T ∧ G T = none ∧ txt.cps[i]? = some c ∧ H' = upd G T (.tup [.int (i : Nat), .str ⟨#[c]⟩])) :=
  ⟨fun _ _ hi _ => hi, fun _ _ => rfl, fun _ _ _ _ _ _ y => y⟩
end WP
namespace WP
open PySem L2
/-! ### the text -/
def top (i : Nat) : Stmt := PySem.Challenge.pw_windowpicks_k15_places_by_their_surround.main.body.getD i (.Pass ⟨0, 0, 0, 0⟩)
abbrev s_box : Stmt := top 26
abbrev s_take : Stmt := top 27
/-! ### heaps -/
/-- only the object at b may have changed -/
def But (b : Addr) (H H' : Hp) : Prop := ∀ c o, H c = some o → c ≠ b → H' c = some o
theorem But.refl (b : Addr) (H : Hp) : But b H H := fun _ _ h _ => h
theorem But.trans {b : Addr} {H H1 H2 : Hp} (x : But b H H1) (y : But b H1 H2) : But b H H2 := fun c o h n => y c o (x c o h n) n
theorem But.same {b : Addr} {H H1 H2 : Hp} (x : But b H H1) (y : Same H1 H2) : But b H H2 := fun c o h n => y c o (x c o h n)
theorem Same.but {b : Addr} {H H1 H2 : Hp} (x : Same H H1) (y : But b H1 H2) : But b H H2 := fun c o h n => y c o (x c o h) n
theorem but_upd {b : Addr} {H : Hp} {o : HO} : But b H (upd H b o) := fun c u h n => by rw [upd_ne n]; exact h
theorem But.seq {K : PySem.W.Frag} {b a : Addr} {H H' : Hp} {xs : List V} (e : But b H H') (n : a ≠ b) (h : SqL K H a xs) : SqL K H' a xs := by
  rcases h with (h1 | ⟨o, h2⟩) | h3
  · exact .inl (.inl (e _ _ h1 n))
  · exact .inl (.inr ⟨o, e _ _ h2 n⟩)
  · exact .inr h3
theorem same_upd {H : Hp} {p : Addr} {o : HO} (h : H p = none) : Same H (upd H p o) := fun b x e => by
  rw [upd_ne (ne_of_none e h)]
  exact e
theorem fdiv_nn {i m : Int} (h : 0 ≤ i) (hm : 0 < m) : 0 ≤ i.fdiv m := by
  rw [Int.fdiv_eq_ediv_of_nonneg _ (Int.le_of_lt hm)]
  exact Int.ediv_nonneg h (Int.le_of_lt hm)
/-! ### the box of draws -/
structure Box (H : Hp) (b : Addr) : Prop where
  ex : ∃ i j k : Int, H b = some (.lst [.int i, .int j, .int k]) ∧ 0 ≤ i
def spTake : Sp := fun vs H Q _ => ∃ (b : Addr) (m : Int), vs = [.ref b, .int m] ∧ Box H b ∧ 0 < m ∧ m < 1000000 ∧
  ∀ H' r, 0 ≤ r → r < m → But b H H' → Box H' b → Q (.int r) H'
theorem scTake : FnScope ["_law_box_here", "_law_many", "_law_digit", "_law_raw", "_law_wide"] ["_law_box_here", "_law_many"] (defScope s_take) :=
  ⟨rfl, rfl, rfl, by decide +kernel, rfl, by decide +kernel, by decide +kernel⟩
section
variable {K : PySem.W.Frag} {mg : Str → Option Value} {base : Heap} {w : World} {P : Program}
theorem ok_take {f : Addr} {fd : FuncData} (F : Fun K "_law_take" "_law_take" s_take f fd) (mi : mg "int" = none) : FnOk P w K mg base CX0 1 f fd ["_law_box_here", "_law_many"] spTake := by
  refine F.ok scTake (fun vs H Q E h => ?_) (fun cdv A outer s H vs Q E hr h => ?_)
  · obtain ⟨b, m, rfl, _⟩ := h
    rfl
  · obtain ⟨b, m, rfl, ⟨i, j, k, hb, hi⟩, m0, m1, q⟩ := h
    refine ⟨_, pss_cons (ps_if (pt_cmpR op_gt (pe_ix ix_list (pv 0) pe_int (fun _ _ => rfl)) pe_int (nomark _))
        (pss_cons (ps_set (i := 2) scTake.nd rfl (.inl rfl) (pe_op op_mod (pe_callTy call_int1 (by rfl) mi (by decide +kernel) (pa_cons (pe_ix ix_list (pv 0) pe_int (fun _ _ => rfl)) pa_nil)) (pv 1)))
        (pss_cons (ps_asg (pe_op op_fdivN (pe_ix ix_list (pv 0) pe_int (fun _ _ => rfl)) (pv 1)) (pg_sub (pv 0) pe_int set_list))
        (pss_one (ps_ret (pv 2))))) pss_nil)
      (pss_cons (ps_asg (pe_op op_add (pe_ix ix_list (pv 0) pe_int (fun _ _ => rfl)) pe_int) (pg_sub (pv 0) pe_int set_list))
      (pss_cons (ps_set (i := 3) scTake.nd rfl (.inl rfl) (pe_op op_mod (pe_callTy call_int1 (by rfl) mi (by decide +kernel) (pa_cons (pe_op op_mul (pe_op op_add (pe_ix ix_list (pv 0) pe_int (fun _ _ => rfl)) (pe_op op_mul pe_int (pe_ix ix_list (pv 0) pe_int (fun _ _ => rfl)))) pe_int) pa_nil)) pe_int))
      (pss_cons (ps_asg (pe_op op_add (pe_op op_mod (pe_callTy call_int1 (by rfl) mi (by decide +kernel) (pa_cons (pe_op op_add (pe_op op_mul (pv 3) pe_int) pe_int) pa_nil)) pe_int) pe_int) (pg_sub (pv 0) pe_int set_list))
      (pss_cons (ps_if (pt_cmpR op_lt (pv 1) (pe_op op_pow pe_int pe_int) (nomark _))
        (pss_one (ps_ret (pe_op op_mod (pe_callTy call_int1 (by rfl) mi (by decide +kernel) (pa_cons (pe_op op_fdiv (pe_op op_add (pe_op op_mul (pv 3) pe_int) (pe_ix ix_list (pv 0) pe_int (fun _ _ => rfl))) pe_int) pa_nil)) (pv 1)))) pss_nil)
      (pss_cons ps_never (pss_one ps_never)))))), ?_⟩
    have hq : SqL K H b [.int i, .int j, .int k] := .inl (.inl hb)
    refine ⟨_, rfl, b, _, _, _, rfl, rfl, hq, atI_nat (j := 0) rfl, _, _, rfl, rfl, _, rfl, ite2 (fun e => ?_) (fun e => ?_)⟩
    · -- digits of the great integer
      refine ⟨_, rfl, b, _, _, _, rfl, rfl, hq, atI_nat (j := 0) rfl, .inl ⟨_, rfl, _, rfl, _, _, rfl, rfl, m0, ?_⟩⟩
      refine ⟨_, rfl, b, _, _, _, rfl, rfl, hq, atI_nat (j := 0) rfl, _, rfl, _, _, rfl, rfl, ⟨by omega, by omega⟩, ?_⟩
      refine ⟨_, rfl, b, _, 0, 0, rfl, rfl, hb, rfl, _, rfl, ?_⟩
      have mn : m ≠ 0 := by omega
      exact q _ _ (Int.emod_nonneg _ mn) (Int.emod_lt_of_pos _ m0) but_upd ⟨_, _, _, upd_same, fdiv_nn hi m0⟩
    · -- mixed numbers
      refine ⟨_, rfl, b, _, _, _, rfl, rfl, hq, atI_nat (j := 2) rfl, _, _, rfl, rfl, _, rfl, b, _, 2, 2, rfl, rfl, hb, rfl, ?_⟩
      have h2 : ∀ x : Int, SqL K (upd H b (.lst [.int i, .int j, .int x])) b [.int i, .int j, .int x] := fun x => .inl (.inl upd_same)
      refine ⟨_, rfl, b, _, _, _, rfl, rfl, h2 _, atI_nat (j := 1) rfl, _, rfl, b, _, _, _, rfl, rfl, h2 _, atI_nat (j := 2) rfl, _, _, rfl, rfl, .inl ⟨by decide, by decide⟩, _, _, rfl, rfl, _, _, rfl, rfl, .inr ⟨by decide, by decide⟩, .inl ⟨_, rfl, _, _, rfl, rfl, (by show (0 : Int) < 2147483647; decide), ?_⟩⟩
      refine ⟨_, rfl, _, _, rfl, rfl, .inr ⟨by decide, by decide⟩, _, _, rfl, rfl, .inl ⟨_, rfl, _, _, rfl, rfl, (by show (0 : Int) < 2147483629; decide), _, _, rfl, rfl, _, rfl, b, _, 1, 1, rfl, rfl, upd_same, rfl, ?_⟩⟩
      have h3 : ∀ (Z : Hp) (x y : Int), SqL K (upd Z b (.lst [.int i, .int x, .int y])) b [.int i, .int x, .int y] := fun Z x y => .inl (.inl upd_same)
      refine ⟨_, rfl, _, _, rfl, rfl, ⟨by decide, by decide, by decide⟩, _, _, rfl, rfl, _, rfl, ite2 (fun e2 => ?_) (fun e2 => ?_)⟩
      · refine ⟨_, rfl, _, _, rfl, rfl, .inr ⟨by decide, by decide⟩, _, rfl, b, _, _, _, rfl, rfl, h3 _ _ _, atI_nat (j := 1) rfl, _, _, rfl, rfl, _, _, rfl, rfl, ⟨by decide, by decide⟩, .inl ⟨_, rfl, _, rfl, _, _, rfl, rfl, m0, ?_⟩⟩
        have mn : m ≠ 0 := by omega
        exact q _ _ (Int.emod_nonneg _ mn) (Int.emod_lt_of_pos _ m0) (but_upd.trans but_upd) ⟨_, _, _, upd_same, hi⟩
      · exfalso
        refine e2 (decide_eq_true ?_)
        have e3 : (2 : Int) ^ (40 : Int).toNat = 1099511627776 := by decide
        rw [e3]
        omega
end
end WP
namespace WP
open PySem L2



theorem atI_mk {xs : List V} {z : Int} {j : Nat} {v : V} (e : z = (j : Int)) (h : xs[j]? = some v) : atI xs z = some v := by
  subst e
  exact atI_nat h
theorem int_at {ns : List Int} {j : Nat} (h : j < ns.length) : (ns.map V.int)[j]? = some (.int ns[j]) := by
  rw [List.getElem?_map, List.getElem?_eq_getElem h]
  rfl
theorem ite_nn {b : Bool} {c : Int} (h : 0 ≤ c) : 0 ≤ if b = true then c else 0 := by
  cases b
  · exact Int.le_refl 0
  · exact h
theorem abs_nn (i : Int) : 0 ≤ (if i < 0 then -i else i) := by
  split <;> omega
section
variable {K : PySem.W.Frag} {mg : Str → Option Value} {base : Heap} {w : World} {P : Program}
/-! ### a box is made -/
def spBox (K : PySem.W.Frag) : Sp := fun vs H Q _ => ∃ (a : Addr) (ns : List Int) (k own : Nat), vs = [.ref a, .int k, .int own] ∧ SqL K H a (ns.map V.int) ∧ ns.length ≤ 63 ∧
  ∀ H' p, Same H H' → H p = none → Box H' p → Q (.ref p) H'
theorem scBox : FnScope ["_law_script", "_law_k", "_law_own", "_law_cell", "_law_seed"] ["_law_script", "_law_k", "_law_own"] (defScope s_box) :=
  ⟨rfl, rfl, rfl, by decide +kernel, rfl, by decide +kernel, by decide +kernel⟩
theorem ok_box {f : Addr} {fd : FuncData} (F : Fun K "_law_box" "_law_box" s_box f fd) (mi : mg "int" = none) (ml : mg "len" = none) (ma : mg "abs" = none) :
    FnOk P w K mg base CX0 1 f fd ["_law_script", "_law_k", "_law_own"] (spBox K) := by
  refine F.ok scBox (fun vs H Q E h => ?_) (fun cdv A outer s H vs Q E hr h => ?_)
  · obtain ⟨a, ns, k, own, rfl, _⟩ := h
    rfl
  · obtain ⟨a, ns, k, own, rfl, hS, hl, q⟩ := h
    refine ⟨_, pss_cons (ps_set (i := 3) scBox.nd rfl (.inl rfl) (pe_op op_add (pe_op op_add (pe_op op_mul pe_int (pv 1)) (pe_op op_mul pe_int (pv 2))) pe_int))
      (pss_cons (ps_if (pt_cmpR op_lt (pv 1) (pe_callB call_len_seq (by rfl) ml PySem.boot_len (pa_cons (pv 0) pa_nil)) (nomark _))
          (pss_one (ps_set (i := 3) scBox.nd rfl (.inl rfl) (pe_callB call_abs (by rfl) ma (by decide +kernel) (pa_cons (pe_ix ix_list (pv 0) (pv 1) (fun _ _ => rfl)) pa_nil))))
          (pss_one (ps_if (pt_cmpR op_gt (pe_callB call_len_seq (by rfl) ml PySem.boot_len (pa_cons (pv 0) pa_nil)) pe_int (nomark _))
            (pss_one (ps_set (i := 3) scBox.nd rfl (.inl rfl) (pe_op op_add (pv 3) (pe_op op_mul (pe_op op_mod (pe_callTy call_int1 (by rfl) mi (by decide +kernel) (pa_cons (pe_callB call_abs (by rfl) ma (by decide +kernel) (pa_cons
              (pe_ix ix_list (pv 0) (pe_op op_mod (pe_callTy call_int1 (by rfl) mi (by decide +kernel) (pa_cons (pv 1) pa_nil)) (pe_callB call_len_seq (by rfl) ml PySem.boot_len (pa_cons (pv 0) pa_nil))) (fun _ _ => rfl)) pa_nil)) pa_nil)) pe_int) pe_int)))) pss_nil)))
      (pss_cons (ps_set (i := 4) scBox.nd rfl (.inl rfl) (pe_op op_add (pe_op op_mod (pe_callTy call_int1 (by rfl) mi (by decide +kernel) (pa_cons (pe_op op_add (pe_op op_mul (pe_op op_mod (pe_callTy call_int1 (by rfl) mi (by decide +kernel) (pa_cons (pv 3) pa_nil)) pe_int) pe_int)
          (pe_op op_mul pe_int (pe_op op_add (pv 1) (pe_op op_mul pe_int (pv 2))))) pa_nil)) pe_int) pe_int))
      (pss_one (ps_ret (pe_lst (pa_cons (pe_ix ix_list (pe_lst (pa_cons pe_int (pa_cons (pv 3) pa_nil))) (pe_callTy call_int1 (by rfl) mi (by decide +kernel) (pa_cons (pe_cmpR op_ge (pv 3) (pe_op op_pow pe_int pe_int) (nomark _)) pa_nil)) (fun _ _ => rfl)) (pa_cons (pv 4) (pa_cons pe_int pa_nil)))))))), ?_⟩
    refine ⟨_, rfl, _, _, rfl, rfl, .inl ⟨by decide, by decide⟩, _, rfl, _, _, rfl, rfl, .inl ⟨by decide, by decide⟩, _, _, rfl, rfl, _, _, rfl, rfl, ?_⟩
    refine ⟨_, rfl, _, rfl, a, _, rfl, .inl hS, _, _, rfl, rfl, _, rfl, ?_⟩
    refine ite2 (fun e => ?_) (fun e => ?_)
    rotate_left
    · refine ⟨_, rfl, a, _, rfl, .inl hS, _, _, rfl, rfl, _, rfl, ?_⟩
      refine ite2 (fun e => ?_) (fun e => ?_)
      rotate_left
      · have c0 : (0 : Int) ≤ 9013 * k + 100169 * own + 167 := by omega
        refine ⟨_, rfl, .inl ⟨_, rfl, _, _, rfl, rfl, (by show (0 : Int) < 2147483629; decide), _, _, rfl, rfl, .inr ⟨by decide, by decide⟩, _, rfl, _, rfl, _, _, rfl, rfl, .inl ⟨by decide, by decide⟩, _, _, rfl, rfl, _, _, rfl, rfl, .inl ⟨by decide, by decide⟩, _, _, rfl, rfl,
          .inl ⟨_, rfl, _, _, rfl, rfl, (by show (0 : Int) < 2147483629; decide), _, _, rfl, rfl, ?_⟩⟩⟩
        refine ⟨_, rfl, (by show 2 ≤ sizeLine; decide), fun l hl => ⟨_, rfl, _, _, rfl, rfl, ⟨by decide, by decide, by decide⟩, _, _, rfl, rfl, .inr ⟨_, rfl, l, _, _, .int (if decide ((10 : Int) ^ (18 : Int).toNat ≤ (9013 * (k : Int) + 100169 * own + 167)) = true then (9013 * (k : Int) + 100169 * own + 167) else 0), rfl, rfl, .inl (.inl upd_same), ?_, _, rfl, (by show 3 ≤ sizeLine; decide), fun p hp => ?_⟩⟩⟩
        · by_cases hc : decide ((10 : Int) ^ (18 : Int).toNat ≤ (9013 * (k : Int) + 100169 * own + 167)) = true
          · rw [if_pos hc, if_pos hc]
            exact atI_nat (j := 1) rfl
          · rw [if_neg hc, if_neg hc]
            exact atI_nat (j := 0) rfl
        · refine q _ p ((same_upd hl).trans (same_upd hp)) ((same_upd hl).free hp) ⟨_, _, _, upd_same, ite_nn c0⟩
      · have h0 : 0 < ns.length := by
          have := of_decide_eq_true e
          rw [List.length_map] at this
          omega
        have hk : k % ns.length < ns.length := Nat.mod_lt _ h0
        refine ⟨_, rfl, _, rfl, _, rfl, .inl ⟨_, rfl, _, rfl, a, _, rfl, .inl hS, _, _, rfl, rfl, (by show (0 : Int) < ((ns.map V.int).length : Nat); rw [List.length_map]; omega), a, _, _, _, rfl, rfl, hS, atI_mk (j := k % ns.length) (by rw [List.length_map]; rfl) (int_at hk), _, rfl, ?_⟩⟩
        have c1 := abs_nn ns[k % ns.length]
        refine .inl ⟨_, rfl, _, _, rfl, rfl, (by show (0 : Int) < 2147483629; decide), _, _, rfl, rfl, .inr ⟨by decide, by decide⟩, _, _, rfl, rfl, ?_⟩
        have c2 := Int.emod_nonneg (if ns[k % ns.length] < 0 then -ns[k % ns.length] else ns[k % ns.length]) (show (2147483629 : Int) ≠ 0 by decide)
        have c0 : (0 : Int) ≤ 9013 * k + 100169 * own + 167 + (if ns[k % ns.length] < 0 then -ns[k % ns.length] else ns[k % ns.length]) % 2147483629 * 52817 := by omega
        refine ⟨_, rfl, .inl ⟨_, rfl, _, _, rfl, rfl, (by show (0 : Int) < 2147483629; decide), _, _, rfl, rfl, .inr ⟨by decide, by decide⟩, _, rfl, _, rfl, _, _, rfl, rfl, .inl ⟨by decide, by decide⟩, _, _, rfl, rfl, _, _, rfl, rfl, .inl ⟨by decide, by decide⟩, _, _, rfl, rfl,
          .inl ⟨_, rfl, _, _, rfl, rfl, (by show (0 : Int) < 2147483629; decide), _, _, rfl, rfl, ?_⟩⟩⟩
        refine ⟨_, rfl, (by show 2 ≤ sizeLine; decide), fun l hl => ⟨_, rfl, _, _, rfl, rfl, ⟨by decide, by decide, by decide⟩, _, _, rfl, rfl, .inr ⟨_, rfl, l, _, _, .int (if decide ((10 : Int) ^ (18 : Int).toNat ≤ (9013 * (k : Int) + 100169 * own + 167 + (if ns[k % ns.length] < 0 then -ns[k % ns.length] else ns[k % ns.length]) % 2147483629 * 52817)) = true then (9013 * (k : Int) + 100169 * own + 167 + (if ns[k % ns.length] < 0 then -ns[k % ns.length] else ns[k % ns.length]) % 2147483629 * 52817) else 0), rfl, rfl, .inl (.inl upd_same), ?_, _, rfl, (by show 3 ≤ sizeLine; decide), fun p hp => ?_⟩⟩⟩
        · by_cases hc : decide ((10 : Int) ^ (18 : Int).toNat ≤ (9013 * (k : Int) + 100169 * own + 167 + (if ns[k % ns.length] < 0 then -ns[k % ns.length] else ns[k % ns.length]) % 2147483629 * 52817)) = true
          · rw [if_pos hc, if_pos hc]
            exact atI_nat (j := 1) rfl
          · rw [if_neg hc, if_neg hc]
            exact atI_nat (j := 0) rfl
        · refine q _ p ((same_upd hl).trans (same_upd hp)) ((same_upd hl).free hp) ⟨_, _, _, upd_same, ite_nn c0⟩
    · have hk : k < ns.length := by
        have := of_decide_eq_true e
        rw [List.length_map] at this
        omega
      have c0 := abs_nn ns[k]
      refine ⟨_, rfl, _, rfl, a, _, _, _, rfl, rfl, hS, atI_nat (int_at hk), _, rfl, ?_⟩
      generalize (if ns[k] < 0 then -ns[k] else ns[k]) = c at c0 ⊢
      refine ⟨_, rfl, .inl ⟨_, rfl, _, _, rfl, rfl, (by show (0 : Int) < 2147483629; decide), _, _, rfl, rfl, .inr ⟨by decide, by decide⟩, _, rfl, _, rfl, _, _, rfl, rfl, .inl ⟨by decide, by decide⟩, _, _, rfl, rfl, _, _, rfl, rfl, .inl ⟨by decide, by decide⟩, _, _, rfl, rfl,
        .inl ⟨_, rfl, _, _, rfl, rfl, (by show (0 : Int) < 2147483629; decide), _, _, rfl, rfl, ?_⟩⟩⟩
      refine ⟨_, rfl, (by show 2 ≤ sizeLine; decide), fun l hl => ⟨_, rfl, _, _, rfl, rfl, ⟨by decide, by decide, by decide⟩, _, _, rfl, rfl, .inr ⟨_, rfl, l, _, _, .int (if decide ((10 : Int) ^ (18 : Int).toNat ≤ c) = true then c else 0), rfl, rfl, .inl (.inl upd_same), ?_, _, rfl, (by show 3 ≤ sizeLine; decide), fun p hp => ?_⟩⟩⟩
      · by_cases hc : decide ((10 : Int) ^ (18 : Int).toNat ≤ c) = true
        · rw [if_pos hc, if_pos hc]
          exact atI_nat (j := 1) rfl
        · rw [if_neg hc, if_neg hc]
          exact atI_nat (j := 0) rfl
      · refine q _ p ((same_upd hl).trans (same_upd hp)) ((same_upd hl).free hp) ⟨_, _, _, upd_same, ite_nn c0⟩
end
end WP
namespace WP
open PySem L2
/-! ### comprehensions that fill a list: F i is the list after i turns -/
section
variable {Y : Nat → Hp → V → Hp → Prop} {J : It} {G : Hp → Prop} {n : Nat}
theorem same_put {H1 H : Hp} {D : Addr} {o : HO} (nD : H1 D = none) (h : Same H1 H) : Same H1 (upd H D o) := fun c u e => by
  rw [upd_ne (ne_of_none e nD)]
  exact h c u e
theorem but_put {b : Addr} {H1 H : Hp} {D : Addr} {o : HO} (nD : H1 D = none) (h : But b H1 H) : But b H1 (upd H D o) := fun c u e n => by
  rw [upd_ne (ne_of_none e nD)]
  exact h c u e n
theorem yes_i {A B : Hp → Prop} {σ : St} {H : Hp} (h : A H) : tYes σ H fun b H3 => if b = true then A H3 else B H3 := by
  show (if true = true then A H else B H)
  rw [if_pos rfl]
  exact h
theorem lc_acc (wk : Walk J n G Y) {g : TG} {tt : TT} {te : TE} {vs : List Nat} {σ : St} {H1 : Hp} {D : Addr} {Qd : Hp → Prop} (nD : H1 D = none) (F : Nat → List V) (hF0 : F 0 = []) (hF : ∀ i, i < n → (F i).length < sizeLine)
    (hG : ∀ H, Same H1 H → G H)
    (hs : ∀ i x H H', i < n → Same H1 H → Y i H x H' → (∀ y H4, Same H H4 → F (i + 1) = F i ++ [y] → ∃ acc, H4 D = some (.lst acc) ∧ acc.length < sizeLine ∧ (Same H1 (upd H4 D (.lst (acc ++ [y]))) ∧ (upd H4 D (.lst (acc ++ [y]))) D = some (.lst (F (i + 1))))) →
      (∀ H4, Same H H4 → F (i + 1) = F i → Same H1 H4 ∧ H4 D = some (.lst (F (i + 1)))) →
      g x (wipe σ vs) H' fun σ2 H2 => wipe σ2 vs = wipe σ vs ∧ tt σ2 H2 fun b H3 =>
        if b = true then te σ2 H3 fun y H4 => ∃ acc, H4 D = some (.lst acc) ∧ acc.length < sizeLine ∧ (Same H1 (upd H4 D (.lst (acc ++ [y]))) ∧ (upd H4 D (.lst (acc ++ [y]))) D = some (.lst (F (i + 1)))) else Same H1 H3 ∧ H3 D = some (.lst (F (i + 1))))
    (hd : ∀ H, Same H1 H → H D = some (.lst (F n)) → Qd H) :
    ∃ Wv : Nat → Nat → Hp → Prop, (∃ m, Wv 0 m (upd H1 D (.lst []))) ∧ ∀ i m H, Wv i m H →
      (J.stop i H ∧ Qd H) ∨ (J.go i H ∧ ∃ Nxt : Hp → Prop, (∀ H', Nxt H' → ∃ m', m' < m ∧ Wv (i + 1) m' H') ∧ ∀ x H', J.yld i H x H' → g x (wipe σ vs) H' fun σ2 H2 => wipe σ2 vs = wipe σ vs ∧ tt σ2 H2 fun b H3 =>
        if b = true then te σ2 H3 fun y H4 => ∃ acc, H4 D = some (.lst acc) ∧ acc.length < sizeLine ∧ Nxt (upd H4 D (.lst (acc ++ [y]))) else Nxt H3) := by
  refine lc_it wk (fun i H => Same H1 H ∧ H D = some (.lst (F i))) ⟨same_upd nD, by rw [upd_same, hF0]⟩ (fun i H _ h => hG H h.1) ?_ (fun H h => hd H h.1 h.2)
  rintro i x H H' hi ⟨s1, hD⟩ hy
  exact hs i x H H' hi s1 hy (fun y H4 s4 e => ⟨F i, s4 _ _ hD, hF i hi, same_put nD (s1.trans s4), by rw [upd_same, e]⟩) (fun H4 s4 e => ⟨s1.trans s4, by rw [e]; exact s4 _ _ hD⟩)
theorem lc_accB {b : Addr} (wk : Walk J n G Y) {g : TG} {tt : TT} {te : TE} {vs : List Nat} {σ : St} {H1 : Hp} {D : Addr} {Qd : Hp → Prop} (nD : H1 D = none) (nb : D ≠ b) (F : List V → Prop) (I : Hp → Prop) (hF0 : F []) (hF : ∀ l, F l → l.length < n → l.length < sizeLine)
    (hI0 : I (upd H1 D (.lst []))) (hI : ∀ H o, I H → I (upd H D o))
    (hG : ∀ H, But b H1 H → G H)
    (hs : ∀ i x H H', i < n → But b H1 H → I H → Y i H x H' → (∀ y H4, But b H H4 → I H4 → (∀ l, F l → l.length = i → F (l ++ [y])) → ∃ acc, H4 D = some (.lst acc) ∧ acc.length < sizeLine ∧ (But b H1 (upd H4 D (.lst (acc ++ [y]))) ∧ I (upd H4 D (.lst (acc ++ [y]))) ∧ ∃ l, F l ∧ l.length = i + 1 ∧ (upd H4 D (.lst (acc ++ [y]))) D = some (.lst l))) →
      g x (wipe σ vs) H' fun σ2 H2 => wipe σ2 vs = wipe σ vs ∧ tt σ2 H2 fun c H3 =>
        if c = true then te σ2 H3 fun y H4 => ∃ acc, H4 D = some (.lst acc) ∧ acc.length < sizeLine ∧ (But b H1 (upd H4 D (.lst (acc ++ [y]))) ∧ I (upd H4 D (.lst (acc ++ [y]))) ∧ ∃ l, F l ∧ l.length = i + 1 ∧ (upd H4 D (.lst (acc ++ [y]))) D = some (.lst l)) else (But b H1 H3 ∧ I H3 ∧ ∃ l, F l ∧ l.length = i + 1 ∧ H3 D = some (.lst l)))
    (hd : ∀ H l, But b H1 H → I H → F l → l.length = n → H D = some (.lst l) → Qd H) :
    ∃ Wv : Nat → Nat → Hp → Prop, (∃ m, Wv 0 m (upd H1 D (.lst []))) ∧ ∀ i m H, Wv i m H →
      (J.stop i H ∧ Qd H) ∨ (J.go i H ∧ ∃ Nxt : Hp → Prop, (∀ H', Nxt H' → ∃ m', m' < m ∧ Wv (i + 1) m' H') ∧ ∀ x H', J.yld i H x H' → g x (wipe σ vs) H' fun σ2 H2 => wipe σ2 vs = wipe σ vs ∧ tt σ2 H2 fun c H3 =>
        if c = true then te σ2 H3 fun y H4 => ∃ acc, H4 D = some (.lst acc) ∧ acc.length < sizeLine ∧ Nxt (upd H4 D (.lst (acc ++ [y]))) else Nxt H3) := by
  refine lc_it wk (fun i H => But b H1 H ∧ I H ∧ ∃ l, F l ∧ l.length = i ∧ H D = some (.lst l)) ⟨but_put nD (But.refl b H1), hI0, [], hF0, rfl, upd_same⟩ (fun i H _ h => hG H h.1) ?_ (fun H h => let ⟨h1, h2, l, h3, h4, h5⟩ := h; hd H l h1 h2 h3 h4 h5)
  rintro i x H H' hi ⟨s1, hi1, l, hl, hll, hD⟩ hy
  refine hs i x H H' hi s1 hi1 hy fun y H4 s4 i4 e => ⟨l, s4 _ _ hD nb, hF l hl (by omega), but_put nD (s1.trans s4), hI _ _ i4, l ++ [y], e l hl hll, ?_, upd_same⟩
  rw [List.length_append, hll]
  rfl
end
/-! ### texts of digits -/
def cod (ds : List Nat) : List Nat := ds.map (97 + ·)
abbrev tx (ds : List Nat) : Str := SX.S (cod ds)
abbrev tv (ds : List Nat) : V := .str (tx ds)
theorem cod_len (ds : List Nat) : (cod ds).length = ds.length := List.length_map _
theorem tx_len (ds : List Nat) : (tx ds).length = ds.length := by rw [SX.S_len, cod_len]
theorem cod_inj : ∀ {a b : List Nat}, cod a = cod b → a = b
  | [], [], _ => rfl
  | [], _ :: _, h => by cases h
  | _ :: _, [], h => by cases h
  | x :: a, y :: b, h => by
    have h1 : 97 + x = 97 + y := (List.cons.inj h).1
    have h2 : cod a = cod b := (List.cons.inj h).2
    have e : x = y := by omega
    rw [e, cod_inj h2]
theorem tx_inj {a b : List Nat} (h : tx a = tx b) : a = b := cod_inj (SX.S_inj h)
theorem tv_inj {a b : List Nat} (h : tv a = tv b) : a = b := tx_inj (V.str.inj h)
theorem tx_cat (a b : List Nat) : tx a ++ tx b = tx (a ++ b) := by
  rw [SX.S_cat]
  show SX.S (cod a ++ cod b) = SX.S (cod (a ++ b))
  rw [show cod (a ++ b) = cod a ++ cod b from List.map_append]
/-- all texts of n digits below s, in order -/
def allT (s : Nat) : Nat → List (List Nat)
  | 0 => [[]]
  | n + 1 => (allT s n).flatMap fun t => (List.range s).map fun d => t ++ [d]
theorem flat_len {α β : Type} (f : α → List β) (k : Nat) (h : ∀ x, (f x).length = k) : ∀ l : List α, (l.flatMap f).length = l.length * k
  | [] => by simp
  | x :: l => by
    rw [List.flatMap_cons, List.length_append, h, flat_len f k h l, List.length_cons, Nat.add_mul, Nat.one_mul, Nat.add_comm]
theorem allT_len (s : Nat) : ∀ n, (allT s n).length = s ^ n
  | 0 => rfl
  | n + 1 => by
    show ((allT s n).flatMap _).length = _
    rw [flat_len _ s (fun t => by rw [List.length_map, List.length_range]), allT_len s n, Nat.pow_succ]
/-- a text of n digits below s -/
def Dig (s : Nat) (ds : List Nat) : Prop := ∀ d ∈ ds, d < s
theorem allT_mem (s : Nat) : ∀ (n : Nat) (ds : List Nat), ds ∈ allT s n ↔ ds.length = n ∧ Dig s ds
  | 0, ds => by
    constructor
    · intro h
      have e : ds = [] := List.mem_singleton.mp h
      subst e
      exact ⟨rfl, fun d hd => by cases hd⟩
    · rintro ⟨h, _⟩
      have e : ds = [] := List.eq_nil_of_length_eq_zero h
      subst e
      exact List.mem_singleton.mpr rfl
  | n + 1, ds => by
    constructor
    · intro h
      obtain ⟨t, ht, h2⟩ := List.mem_flatMap.mp h
      obtain ⟨d, hd, e⟩ := List.mem_map.mp h2
      obtain ⟨h3, h4⟩ := (allT_mem s n t).mp ht
      subst e
      refine ⟨by rw [List.length_append, h3]; rfl, fun c hc => ?_⟩
      rcases List.mem_append.mp hc with q | q
      · exact h4 c q
      · rw [List.mem_singleton.mp q]
        exact List.mem_range.mp hd
    · rintro ⟨h, hd⟩
      have hne : ds ≠ [] := fun e => by rw [e] at h; cases h
      have e := List.dropLast_concat_getLast (l := ds) hne
      refine List.mem_flatMap.mpr ⟨ds.dropLast, (allT_mem s n _).mpr ⟨by rw [List.length_dropLast, h]; rfl, fun c hc => hd c (List.dropLast_subset ds hc)⟩, List.mem_map.mpr ⟨ds.getLast hne, List.mem_range.mpr (hd _ (List.getLast_mem hne)), e⟩⟩
/-- the index of a text among all of its length -/
def num (s : Nat) (ds : List Nat) : Nat := ds.foldl (fun a d => a * s + d) 0
theorem num_snoc (s : Nat) (ds : List Nat) (d : Nat) : num s (ds ++ [d]) = num s ds * s + d := by
  unfold num
  rw [List.foldl_append]
  rfl
theorem num_lt {s : Nat} : ∀ (n : Nat) (ds : List Nat), ds.length = n → Dig s ds → num s ds < s ^ n
  | 0, ds, h, _ => by
    have e : ds = [] := List.eq_nil_of_length_eq_zero h
    subst e
    exact Nat.one_pos
  | n + 1, ds, h, hd => by
    have hne : ds ≠ [] := fun e => by rw [e] at h; cases h
    have e := List.dropLast_concat_getLast (l := ds) hne
    have h1 : num s ds.dropLast < s ^ n := num_lt n _ (by rw [List.length_dropLast, h]; rfl) fun c hc => hd c (List.dropLast_subset ds hc)
    have h2 : ds.getLast hne < s := hd _ (List.getLast_mem hne)
    rw [← e, num_snoc, Nat.pow_succ]
    have h3 : (num s ds.dropLast + 1) * s ≤ s ^ n * s := Nat.mul_le_mul_right s h1
    rw [Nat.add_mul (num s ds.dropLast) 1 s, Nat.one_mul] at h3
    omega
/-! ### the alphabet -/
def abc (s : Nat) : Str := SX.S (cod (List.range s))
theorem abc_cut : ∀ s : Nat, s = 2 ∨ s = 3 ∨ s = 4 → cutS ("abcd" : Str) none (some (s : Int)) = abc s := by
  intro s h
  rcases h with rfl | rfl | rfl <;> decide +kernel
theorem abc_at {s i c : Nat} (h : (abc s).cps[i]? = some c) : i < s ∧ c = 97 + i := by
  have h1 : (cod (List.range s))[i]? = some c := by
    have e : (abc s).cps.toList = cod (List.range s) := rfl
    rw [← e, Array.getElem?_toList]
    exact h
  unfold cod at h1
  rw [List.getElem?_map] at h1
  by_cases hi : i < s
  · rw [List.getElem?_range hi] at h1
    exact ⟨hi, (Option.some.inj h1).symm⟩
  · rw [List.getElem?_eq_none (by rw [List.length_range]; omega)] at h1
    cases h1
theorem abc_size (s : Nat) : (abc s).cps.size = s := by
  show (cod (List.range s)).toArray.size = s
  rw [List.size_toArray, cod_len, List.length_range]
end WP
namespace WP
open PySem L2
abbrev s_pick : Stmt := top 28
abbrev s_power : Stmt := top 42
abbrev s_texts : Stmt := top 30
section
variable {K : PySem.W.Frag} {mg : Str → Option Value} {base : Heap} {w : World} {P : Program}
/-! ### powers -/
def spPower : Sp := fun vs H Q _ => ∃ b n : Nat, vs = [.int b, .int n] ∧ b ≤ 1000 ∧ n ≤ 1000 ∧ Q (.int ((b ^ n : Nat) : Int)) H
theorem scPower : FnScope ["_law_base", "_law_many", "_law_found", "_law_turn"] ["_law_base", "_law_many"] (defScope s_power) :=
  ⟨rfl, rfl, rfl, by decide +kernel, rfl, by decide +kernel, by decide +kernel⟩
theorem ok_power {f : Addr} {fd : FuncData} (F : Fun K "_law_power" "_law_power" s_power f fd) (mr : mg "range" = none) : FnOk P w K mg base CX0 1 f fd ["_law_base", "_law_many"] spPower := by
  refine F.ok scPower (fun vs H Q E h => ?_) (fun cdv A outer s H vs Q E hr h => ?_)
  · obtain ⟨b, n, rfl, _⟩ := h
    rfl
  · obtain ⟨b, n, rfl, hb, hn, q⟩ := h
    refine ⟨_, pss_cons (ps_set (i := 2) scPower.nd rfl (.inl rfl) pe_int)
      (pss_cons (ps_for PassesOwn.never rfl (pi_range1 (by rfl) mr (pa_cons (pv 1) pa_nil)) (pg_name (i := 3) scPower.nd rfl (.inl rfl))
        (pss_one (ps_set (i := 2) scPower.nd rfl (.inl rfl) (pe_op op_mul (pv 2) (pv 0)))))
      (pss_one (ps_ret (pv 2)))), ?_⟩
    refine ⟨_, rfl, n, rfl, by omega, by omega, for_range (lo := 0) (n := (n : Int).toNat) (fun i σ H' => ∃ y, σ = [some (.int b), some (.int n), some (.int ((b ^ i : Nat) : Int)), y] ∧ H' = H) ⟨none, rfl, rfl⟩ ?_ ?_⟩
    · rintro i σ H' hi ⟨y, rfl, rfl⟩
      refine ⟨_, rfl, _, rfl, _, _, rfl, rfl, .inr ⟨by omega, by omega⟩, some (.int (0 + i)), ?_, rfl⟩
      rw [Nat.pow_succ, Int.natCast_mul]
      rfl
    · rintro σ H' ⟨y, rfl, rfl⟩
      refine ⟨_, rfl, ?_⟩
      rw [Int.toNat_natCast]
      exact q
/-! ### one of some items -/
def spPick (K : PySem.W.Frag) : Sp := fun vs H Q _ => ∃ (b l : Addr) (xs : List V), vs = [.ref b, .ref l] ∧ Box H b ∧ SqL K H l xs ∧ l ≠ b ∧ 0 < xs.length ∧ xs.length < 1000000 ∧
  ∀ H' (j : Nat) x, xs[j]? = some x → But b H H' → Box H' b → Q x H'
theorem scPick : FnScope ["_law_box_here", "_law_items"] ["_law_box_here", "_law_items"] (defScope s_pick) :=
  ⟨rfl, rfl, rfl, by decide +kernel, rfl, by decide +kernel, by decide +kernel⟩
theorem ok_pick {f fT : Addr} {fd fdT : FuncData} (F : Fun K "_law_pick" "_law_pick" s_pick f fd) (FT : Fun K "_law_take" "_law_take" s_take fT fdT) (bT : Binds K fdT ["_law_box_here", "_law_many"] []) (gT : mg "_law_take" = some (.ref fT))
    (mi : mg "int" = none) (ml : mg "len" = none) : FnOk P w K mg base CX0 2 f fd ["_law_box_here", "_law_items"] (spPick K) := by
  have GT : FnOk P w K mg base CX0 1 fT fdT ["_law_box_here", "_law_many"] spTake := ok_take FT mi
  refine F.ok scPick (fun vs H Q E h => ?_) (fun cdv A outer s H vs Q E hr h => ?_)
  · obtain ⟨b, l, xs, rfl, _⟩ := h
    rfl
  · obtain ⟨b, l, xs, rfl, hb, hS, hne, h0, h1, q⟩ := h
    refine ⟨_, pss_one (ps_ret (pe_ix ix_list (pv 1) (pe_call GT (hr.mono (by decide)) (by rfl) gT FT.kp bT .nil pass0 (pa_cons (pv 0) (pa_cons (pe_callB call_len_seq (by rfl) ml PySem.boot_len (pa_cons (pv 1) pa_nil)) pa_nil))) (fun _ _ => rfl))), ?_⟩
    refine ⟨_, rfl, _, rfl, _, rfl, l, _, rfl, .inl hS, b, _, rfl, hb, by omega, by omega, fun H' r r0 r1 hB hb' => ?_⟩
    have hj : r.toNat < xs.length := by omega
    exact ⟨l, xs, r, xs[r.toNat], rfl, rfl, hB.seq hne hS, atI_mk (j := r.toNat) (by omega) (List.getElem?_eq_getElem hj), q _ r.toNat _ (List.getElem?_eq_getElem hj) hB hb'⟩
/-! ### all texts -/
def spTexts : Sp := fun vs H Q _ => ∃ s n : Nat, vs = [.int s, .int n] ∧ (s = 2 ∨ s = 3 ∨ s = 4) ∧ n ≤ 100 ∧ s ^ n ≤ 100000 ∧
  ∀ H' p, Same H H' → H p = none → H' p = some (.lst ((allT s n).map tv)) → Q (.ref p) H'
theorem scTexts : FnScope ["_law_letters", "_law_size", "_law_found", "_law_turn", "_law_longer", "_law_one", "_law_sign"] ["_law_letters", "_law_size"] (defScope s_texts) :=
  ⟨rfl, rfl, rfl, by decide +kernel, rfl, by decide +kernel, by decide +kernel⟩
/-- the texts of one turn more, of the first j texts -/
def ext (s : Nat) (l : List (List Nat)) : List (List Nat) := l.flatMap fun t => (List.range s).map fun d => t ++ [d]
theorem ext_snoc (s : Nat) (l : List (List Nat)) (t : List Nat) : ext s (l ++ [t]) = ext s l ++ (List.range s).map fun d => t ++ [d] := by
  unfold ext
  rw [List.flatMap_append]
  simp
theorem ext_len (s : Nat) (l : List (List Nat)) : (ext s l).length = l.length * s := flat_len _ s (fun t => by rw [List.length_map, List.length_range]) l
theorem map_range_succ {α : Type} (f : Nat → α) (i : Nat) : (List.range (i + 1)).map f = (List.range i).map f ++ [f i] := by
  rw [List.range_succ, List.map_append]
  rfl
theorem big_size {n : Nat} (h : n ≤ 1000000) : n < sizeLine := Nat.lt_of_le_of_lt h (by decide)
theorem ok_texts {f : Addr} {fd : FuncData} (F : Fun K "_law_texts" "_law_texts" s_texts f fd) (mr : mg "range" = none) : FnOk P w K mg base CX0 1 f fd ["_law_letters", "_law_size"] spTexts := by
  refine F.ok scTexts (fun vs H Q E h => ?_) (fun cdv A outer s₀ H vs Q E hr h => ?_)
  · obtain ⟨s, n, rfl, _⟩ := h
    rfl
  · obtain ⟨s, n, rfl, hs, hn, hp, q⟩ := h
    refine ⟨_, pss_cons (ps_set (i := 2) scTexts.nd rfl (.inl rfl) (pe_lst (pa_cons pe_str pa_nil)))
      (pss_cons (ps_for PassesOwn.never rfl (pi_range1 (by rfl) mr (pa_cons (pv 1) pa_nil)) (pg_name (i := 3) scTexts.nd rfl (.inl rfl))
        (pss_cons (ps_set (i := 4) scTexts.nd rfl (.inl rfl) (pe_lst pa_nil))
        (pss_cons (ps_for PassesOwn.never rfl (pi_list (pv 2)) (pg_name (i := 5) scTexts.nd rfl (.inr rfl))
          (pss_one (ps_expr (pe_bm PySem.F.plainAttrs_list PySem.F.slot_list_extend PySem.F.type_list_extend mt_extend (pv 4) (pa_cons
            (pe_lc (own := [("_law_sign", 6)]) (g := gName 6) (tt := tYes) rfl scTexts.nd (pi_str (pe_slice sl_str pe_str po_none (po_some (pv 0))))
              (blkOk_by (own := [("_law_sign", 6)]) (N := ["_law_letters", "_law_size", "_law_found", "_law_turn", "_law_longer", "_law_one", "_law_sign"]) (sc := defScope s_texts) (by decide +kernel))
              (fun _ _ _ _ _ => pg_name (i := 6) scTexts.nd rfl (.inl rfl)) (fun _ _ _ _ _ => pts_nil) (fun _ _ _ _ _ => pe_op op_add_str (pv 5) (pv 6))) pa_nil)))))
        (pss_one (ps_set (i := 2) scTexts.nd rfl (.inl rfl) (pv 4))))))
      (pss_one (ps_ret (pv 2)))), ?_⟩
    refine ⟨by show 1 ≤ sizeLine; decide, fun p0 n0 => ?_⟩
    refine ⟨_, rfl, n, rfl, by omega, by omega, for_range (lo := 0) (n := (n : Int).toNat) (fun i σ H' => ∃ p y3 y4 y5 y6, σ = [some (.int s), some (.int n), some (.ref p), y3, y4, y5, y6] ∧ Same H H' ∧ H p = none ∧ H' p = some (.lst ((allT s i).map tv)))
      ⟨p0, none, none, none, none, rfl, same_upd n0, n0, upd_same⟩ ?_ ?_⟩
    · rintro i σ H1 hi ⟨p, y3, y4, y5, y6, rfl, s1, np, hP⟩
      rw [Int.toNat_natCast] at hi
      refine ⟨Nat.zero_le _, fun L nL => ?_⟩
      have hsz : (allT s (i + 1)).length ≤ 100000 := by
        rw [allT_len]
        exact Nat.le_trans (Nat.pow_le_pow_right (by omega) hi) hp
      have npL : p ≠ L := ne_of_none hP nL
      refine ⟨_, rfl, p, rfl, ⟨(allT s i).map tv, .inl (.inl (same_upd nL _ _ hP))⟩, for_list (K := K) (a := p) (xs := (allT s i).map tv) (fun j σ H2 => ∃ y5 y6, σ = [some (.int s), some (.int n), some (.ref p), some (.int (0 + i)), some (.ref L), y5, y6] ∧ Same H1 H2 ∧ H2 L = some (.lst ((ext s ((allT s i).take j)).map tv)))
        ⟨y5, y6, rfl, same_upd nL, upd_same⟩ (fun j σ H2 _ ⟨_, _, _, s2, _⟩ => .inl (.inl (s2 _ _ hP))) ?_ ?_⟩
      · rintro j x σ H2 hj ⟨z5, z6, rfl, s2, hL⟩
        obtain ⟨t, ht, rfl⟩ : ∃ t, (allT s i)[j]? = some t ∧ x = tv t := by
          rw [List.getElem?_map] at hj
          cases e : (allT s i)[j]? with
          | none =>
            rw [e] at hj
            cases hj
          | some t =>
            rw [e] at hj
            exact ⟨t, rfl, (Option.some.inj hj).symm⟩
        refine ⟨_, rfl, .inl ⟨rfl, _, .inl (.inl hL)⟩, ?_⟩
        have htl : t.length = i := ((allT_mem s i t).mp (List.mem_of_getElem? ht)).1
        have hji : j < (allT s i).length := (List.getElem?_eq_some_iff.mp ht).1
        refine ⟨_, rfl, _, rfl, _, rfl, by decide, abc s, congrArg V.str (abc_cut s hs), fun D nD => ?_⟩
        have nLD : L ≠ D := ne_of_none hL nD
        refine lc_acc walk_str nD (fun d => (List.range d).map fun e => tv (t ++ [e])) rfl (fun d hd => ?_) (fun _ _ => trivial) ?_ ?_
        · rw [List.length_map, List.length_range (n := d)]
          rw [abc_size] at hd
          exact big_size (by omega)
        · rintro d x H3 H3' hd s3 ⟨rfl, c, hc, rfl⟩ kk k0
          obtain ⟨hd2, rfl⟩ := abc_at hc
          refine ⟨rfl, yes_i ?_⟩
          refine ⟨_, rfl, _, rfl, _, _, rfl, rfl, ?_, kk _ _ (Same.refl _) ?_⟩
          · rw [tx_len, htl]
            exact Nat.le_of_lt (big_size (by show i + 1 ≤ 1000000; omega))
          · show (List.range (d + 1)).map _ = _
            rw [map_range_succ]
            show _ = _ ++ [V.str (tx t ++ tx [d])]
            rw [tx_cat]
        · intro H3 s3 hD
          rw [abc_size] at hD
          refine ⟨L, D, _, _, rfl, rfl, s3 _ _ hL, hD, ?_, some (tv t), z6, ?_, ?_, ?_⟩
          · rw [List.length_map, List.length_map, List.length_range, ext_len, List.length_take, Nat.min_eq_left (Nat.le_of_lt hji)]
            have h1 : (allT s (i + 1)).length = (allT s i).length * s := by rw [allT_len, allT_len, Nat.pow_succ]
            have h2 : (j + 1) * s ≤ (allT s i).length * s := Nat.mul_le_mul_right s hji
            rw [Nat.add_mul, Nat.one_mul] at h2
            exact Nat.le_of_lt (big_size (by omega))
          · rfl
          · exact fun b u e => by
              rw [upd_ne (ne_of_none e nL)]
              exact s3 _ _ (s2 _ _ e)
          · rw [upd_same, List.take_add_one, ht]
            show _ = some (HO.lst ((ext s ((allT s i).take j ++ [t])).map tv))
            rw [ext_snoc, List.map_append, List.map_map]
            rfl
      · rintro σ H2 ⟨z5, z6, rfl, s2, hL⟩
        refine ⟨_, rfl, L, _, _, _, _, rfl, s1.trans s2, s1.free nL, ?_⟩
        rw [List.length_map, List.take_length] at hL
        exact hL
    · rintro σ H1 ⟨p, y3, y4, y5, y6, rfl, s1, np, hP⟩
      rw [Int.toNat_natCast] at hP
      exact ⟨_, rfl, q _ p s1 np hP⟩
end
end WP
namespace WP
open PySem L2
abbrev s_mixed : Stmt := top 29
abbrev s_shapes : Stmt := top 31
abbrev s_shape : Stmt := top 32
theorem free_of {H H' : Hp} {b p : Addr} (e : But b H H') (n : p ≠ b) (h : H' p = none) : H p = none := by
  cases q : H p with
  | none => rfl
  | some o =>
    rw [e p o q n] at h
    cases h
theorem box_ne {H : Hp} {b p : Addr} (h : Box H b) (n : H p = none) : p ≠ b := by
  obtain ⟨i, j, k, e, _⟩ := h
  exact (ne_of_none e n).symm
theorem Box.but {b p : Addr} {H : Hp} {o : HO} (h : Box H b) (n : p ≠ b) : Box (upd H p o) b := by
  obtain ⟨i, j, k, e, hi⟩ := h
  exact ⟨i, j, k, by rw [upd_ne n.symm]; exact e, hi⟩
theorem Box.same {b : Addr} {H H' : Hp} (h : Box H b) (s : Same H H') : Box H' b := by
  obtain ⟨i, j, k, e, hi⟩ := h
  exact ⟨i, j, k, s _ _ e, hi⟩
theorem Same.toBut {b : Addr} {H H' : Hp} (s : Same H H') : But b H H' := fun c o e _ => s c o e
section
variable {K : PySem.W.Frag} {mg : Str → Option Value} {base : Heap} {w : World} {P : Program}
/-! ### a list in another order -/
def spMixed (K : PySem.W.Frag) : Sp := fun vs H Q _ => ∃ (b l : Addr) (xs : List V), vs = [.ref b, .ref l] ∧ Box H b ∧ SqL K H l xs ∧ l ≠ b ∧ xs.length < 1000000 ∧
  ∀ H' p ys, But b H H' → Box H' b → H p = none → H' p = some (.lst ys) → ys.Perm xs → Q (.ref p) H'
theorem scMixed : FnScope ["_law_box_here", "_law_items", "_law_left", "_law_found", "_law_turn"] ["_law_box_here", "_law_items"] (defScope s_mixed) :=
  ⟨rfl, rfl, rfl, by decide +kernel, rfl, by decide +kernel, by decide +kernel⟩
theorem perm_out {α : Type} {fs ls xs : List α} {r : Nat} {y : α} (h : (fs ++ ls).Perm xs) (e : ls[r]? = some y) : ((fs ++ [y]) ++ ls.eraseIdx r).Perm xs := by
  refine List.Perm.trans ?_ h
  rw [List.append_assoc]
  refine List.Perm.append_left fs ?_
  obtain ⟨hr, rfl⟩ := List.getElem?_eq_some_iff.mp e
  have h2 := List.eraseIdx_eq_take_drop_succ (l := ls) (i := r)
  rw [h2]
  have h3 : ls = ls.take r ++ (ls[r] :: ls.drop (r + 1)) := by
    rw [List.getElem_cons_drop, List.take_append_drop]
  refine List.Perm.trans ?_ (List.Perm.of_eq h3.symm)
  rw [List.singleton_append]
  exact (List.perm_middle (a := ls[r]) (l₁ := ls.take r) (l₂ := ls.drop (r + 1))).symm
theorem ok_mixed {f fT : Addr} {fd fdT : FuncData} (F : Fun K "_law_mixed" "_law_mixed" s_mixed f fd) (FT : Fun K "_law_take" "_law_take" s_take fT fdT) (bT : Binds K fdT ["_law_box_here", "_law_many"] []) (gT : mg "_law_take" = some (.ref fT))
    (mi : mg "int" = none) (ml : mg "len" = none) (mli : mg "list" = none) (mr : mg "range" = none) : FnOk P w K mg base CX0 2 f fd ["_law_box_here", "_law_items"] (spMixed K) := by
  have GT : FnOk P w K mg base CX0 1 fT fdT ["_law_box_here", "_law_many"] spTake := ok_take FT mi
  refine F.ok scMixed (fun vs H Q E h => ?_) (fun cdv A outer s H vs Q E hr h => ?_)
  · obtain ⟨b, l, xs, rfl, _⟩ := h
    rfl
  · obtain ⟨b, l, xs, rfl, hb, hS, hne, h1, q⟩ := h
    refine ⟨_, pss_cons (ps_par (i := 2) (j := 3) rfl scMixed.nd rfl rfl (by decide) rfl rfl (pa_cons (pe_callTy call_list_of (by rfl) mli (by decide +kernel) (pa_cons (pv 1) pa_nil)) (pa_cons (pe_lst pa_nil) pa_nil)) (by rfl))
      (pss_cons (ps_for PassesOwn.never rfl (pi_range1 (by rfl) mr (pa_cons (pe_callB call_len_seq (by rfl) ml PySem.boot_len (pa_cons (pv 2) pa_nil)) pa_nil)) (pg_name (i := 4) scMixed.nd rfl (.inl rfl))
        (pss_one (ps_expr (pe_bm PySem.F.plainAttrs_list PySem.F.slot_list_append PySem.F.type_list_append mt_append (pv 3) (pa_cons
          (pe_bm PySem.F.plainAttrs_list PySem.F.slot_list_pop PySem.F.type_list_pop mt_popAt (pv 2) (pa_cons
            (pe_call GT (hr.mono (by decide)) (by rfl) gT FT.kp bT .nil pass0 (pa_cons (pv 0) (pa_cons (pe_callB call_len_seq (by rfl) ml PySem.boot_len (pa_cons (pv 2) pa_nil)) pa_nil))) pa_nil)) pa_nil)))))
      (pss_one (ps_ret (pv 3)))), ?_⟩
    refine ⟨_, rfl, l, _, rfl, .inl hS, fun L nL => ⟨Nat.zero_le _, fun G nG => ⟨_, _, rfl, ?_⟩⟩⟩
    have bL : L ≠ b := box_ne hb nL
    have s1 : Same H (upd H L (.lst xs)) := same_upd nL
    have bG : G ≠ b := box_ne (hb.same s1) nG
    have nG0 : H G = none := s1.free nG
    have LG : L ≠ G := ne_of_none (show upd H L (.lst xs) L = some (.lst xs) from upd_same) nG
    have s2 : Same H (upd (upd H L (.lst xs)) G (.lst [])) := s1.trans (same_upd nG)
    refine ⟨_, rfl, L, xs, rfl, .inl (.inl (.inl ?_)), xs.length, rfl, by omega, by omega, ?_⟩
    · rw [upd_ne LG]
      exact upd_same
    refine for_range (lo := 0) (n := (xs.length : Int).toNat) (fun i σ H' => ∃ y4 ls fs, σ = [some (.ref b), some (.ref l), some (.ref L), some (.ref G), y4] ∧ But b H H' ∧ Box H' b ∧ H' L = some (.lst ls) ∧ H' G = some (.lst fs) ∧ (fs ++ ls).Perm xs ∧ ls.length + i = xs.length)
      ⟨none, xs, [], rfl, (Same.toBut s2), hb.same s2, by rw [upd_ne LG]; exact upd_same, upd_same, List.Perm.refl _, rfl⟩ ?_ ?_
    · rintro i σ H1 hi ⟨y4, ls, fs, rfl, b1, hb1, hL, hG, pm, hlen⟩
      rw [Int.toNat_natCast] at hi
      refine ⟨_, rfl, .inl ⟨rfl, _, .inl (.inl hG)⟩, _, rfl, .inl ⟨rfl, _, .inl (.inl hL)⟩, _, rfl, _, rfl, L, ls, rfl, .inl (.inl (.inl hL)), b, _, rfl, hb1, by omega, by omega, fun H2 r r0 r1 b2 hb2 => ?_⟩
      have hj : r.toNat < ls.length := by omega
      have hL2 := b2 _ _ hL bL
      have hG2 := b2 _ _ hG bG
      refine ⟨L, ls, r, r.toNat, ls[r.toNat], rfl, rfl, hL2, by omega, by omega, PySem.seqIndex_of r0 (by omega), List.getElem?_eq_getElem hj, ?_⟩
      refine ⟨G, fs, _, rfl, rfl, by rw [upd_ne LG.symm]; exact hG2, big_size (by have := pm.length_eq; rw [List.length_append] at this; omega), _, ls.eraseIdx r.toNat, fs ++ [ls[r.toNat]], rfl, ?_, ?_, ?_, upd_same, perm_out pm (List.getElem?_eq_getElem hj), ?_⟩
      · exact but_put nG0 (but_put nL (b1.trans b2))
      · exact (hb2.but bL).but bG
      · rw [upd_ne LG]
        exact upd_same
      · rw [List.length_eraseIdx_of_lt hj]
        omega
    · rintro σ H1 ⟨y4, ls, fs, rfl, b1, hb1, hL, hG, pm, hlen⟩
      rw [Int.toNat_natCast] at hlen
      have e : ls = [] := List.eq_nil_of_length_eq_zero (by omega)
      subst e
      rw [List.append_nil] at pm
      exact ⟨_, rfl, q _ G fs b1 hb1 nG0 hG pm⟩
/-! ### shapes: letters, w, k -/
abbrev Shp := Int × Int × Int
def tup3 (s : Shp) : HO := .tup [.int s.1, .int s.2.1, .int s.2.2]
def Rows (H : Hp) (ps : List (Addr × Shp)) : Prop := ∀ p ∈ ps, H p.1 = some (tup3 p.2)
def refs (ps : List (Addr × Shp)) : List V := ps.map fun p => .ref p.1
theorem Rows.same {H H' : Hp} {ps : List (Addr × Shp)} (h : Rows H ps) (s : Same H H') : Rows H' ps := fun p hp => s _ _ (h p hp)
theorem Rows.app {H : Hp} {ps qs : List (Addr × Shp)} (h : Rows H ps) (g : Rows H qs) : Rows H (ps ++ qs) := fun p hp => by
  rcases List.mem_append.mp hp with l | r
  · exact h p l
  · exact g p r
theorem Rows.nil (H : Hp) : Rows H [] := fun p hp => by cases hp
theorem seq_i {t u : TS} {D : Ends} {σ : St} {H : Hp} (h : t { D with nx := u D } σ H) : tSeq t u D σ H := h
theorem asg_i {te : TE} {g : TG} {D : Ends} {σ : St} {H : Hp} (h : te σ H fun x H1 => g x σ H1 D.nx) : tAsg te g D σ H := h
theorem ret_i {te : TE} {D : Ends} {σ : St} {H : Hp} (h : te σ H D.rt) : tRet te D σ H := h
theorem lst_i {t : TA} {σ : St} {H : Hp} {Q : VK} (h : t σ H fun xs H1 => xs.length ≤ sizeLine ∧ ∀ p, H1 p = none → Q (.ref p) (upd H1 p (.lst xs))) : tLst t σ H Q := h
theorem op_i {r : R2} {ta tb : TE} {σ : St} {H : Hp} {Q : VK} (h : ta σ H fun x H1 => tb σ H1 fun y H2 => r x y H2 Q) : tOp r ta tb σ H Q := h
theorem row_step {ps : List (Addr × Shp)} {a b c : Int} {rest : TA} {σ : St} {H0 H : Hp} {Q : List V → Hp → Prop} (s : Same H0 H) (r : Rows H ps)
    (h : ∀ t H', Same H0 H' → Rows H' (ps ++ [(t, (a, b, c))]) → rest σ H' (fun xs H2 => Q (.ref t :: xs) H2)) :
    tCons (tTup (tCons (tC (.int a)) (tCons (tC (.int b)) (tCons (tC (.int c)) tNil)))) rest σ H Q := by
  refine ⟨by show 3 ≤ sizeLine; decide, fun t nt => h t _ (s.trans (same_upd nt)) ((r.same (same_upd nt)).app fun p hp => ?_)⟩
  rw [List.mem_singleton.mp hp]
  exact upd_same
def shapesA : List Shp := [(2, 1, 1), (2, 2, 1), (2, 2, 1), (2, 2, 2), (2, 2, 2), (2, 3, 1), (2, 3, 1), (2, 3, 2), (2, 2, 3)]
def shapesB : List Shp := [(2, 1, 3), (2, 2, 4), (2, 4, 1), (2, 4, 2), (2, 3, 3), (2, 3, 4), (3, 2, 1), (3, 1, 2)]
def shapesC : List Shp := [(3, 2, 2), (3, 3, 1), (3, 1, 4), (4, 1, 1), (4, 2, 1), (4, 1, 2), (4, 2, 2), (4, 1, 3)]
def shapesL : List Shp := shapesA ++ shapesB ++ shapesC
def spShapes : Sp := fun vs H Q _ => vs = [] ∧ ∀ H' p ps, Same H H' → H p = none → H' p = some (.lst (refs ps)) → Rows H' ps → ps.map (·.2) = shapesL → Q (.ref p) H'
theorem scShapes : FnScope ["_law_found"] [] (defScope s_shapes) :=
  ⟨rfl, rfl, rfl, by decide +kernel, rfl, by decide +kernel, by decide +kernel⟩
theorem refs_len (ps : List (Addr × Shp)) : (refs ps).length = (ps.map (·.2)).length := by
  unfold refs
  rw [List.length_map, List.length_map]
theorem ok_shapes {f : Addr} {fd : FuncData} (F : Fun K "_law_shapes" "_law_shapes" s_shapes f fd) : FnOk P w K mg base CX0 1 f fd [] spShapes := by
  refine F.ok scShapes (fun vs H Q E h => ?_) (fun cdv A outer s H vs Q E hr h => ?_)
  · obtain ⟨rfl, _⟩ := h
    rfl
  · obtain ⟨rfl, q⟩ := h
    refine ⟨_, pss_cons (ps_set (i := 0) scShapes.nd rfl (.inl rfl) (pe_lst (pa_cons (pe_tup (pa_cons pe_int (pa_cons pe_int (pa_cons pe_int pa_nil)))) (pa_cons (pe_tup (pa_cons pe_int (pa_cons pe_int (pa_cons pe_int pa_nil)))) (pa_cons (pe_tup (pa_cons pe_int (pa_cons pe_int (pa_cons pe_int pa_nil)))) (pa_cons (pe_tup (pa_cons pe_int (pa_cons pe_int (pa_cons pe_int pa_nil)))) (pa_cons (pe_tup (pa_cons pe_int (pa_cons pe_int (pa_cons pe_int pa_nil)))) (pa_cons (pe_tup (pa_cons pe_int (pa_cons pe_int (pa_cons pe_int pa_nil)))) (pa_cons (pe_tup (pa_cons pe_int (pa_cons pe_int (pa_cons pe_int pa_nil)))) (pa_cons (pe_tup (pa_cons pe_int (pa_cons pe_int (pa_cons pe_int pa_nil)))) (pa_cons (pe_tup (pa_cons pe_int (pa_cons pe_int (pa_cons pe_int pa_nil)))) pa_nil)))))))))))
      (pss_cons (ps_set (i := 0) scShapes.nd rfl (.inl rfl) (pe_op op_cat (pv 0) (pe_lst (pa_cons (pe_tup (pa_cons pe_int (pa_cons pe_int (pa_cons pe_int pa_nil)))) (pa_cons (pe_tup (pa_cons pe_int (pa_cons pe_int (pa_cons pe_int pa_nil)))) (pa_cons (pe_tup (pa_cons pe_int (pa_cons pe_int (pa_cons pe_int pa_nil)))) (pa_cons (pe_tup (pa_cons pe_int (pa_cons pe_int (pa_cons pe_int pa_nil)))) (pa_cons (pe_tup (pa_cons pe_int (pa_cons pe_int (pa_cons pe_int pa_nil)))) (pa_cons (pe_tup (pa_cons pe_int (pa_cons pe_int (pa_cons pe_int pa_nil)))) (pa_cons (pe_tup (pa_cons pe_int (pa_cons pe_int (pa_cons pe_int pa_nil)))) (pa_cons (pe_tup (pa_cons pe_int (pa_cons pe_int (pa_cons pe_int pa_nil)))) pa_nil)))))))))))
      (pss_one (ps_ret (pe_op op_cat (pv 0) (pe_lst (pa_cons (pe_tup (pa_cons pe_int (pa_cons pe_int (pa_cons pe_int pa_nil)))) (pa_cons (pe_tup (pa_cons pe_int (pa_cons pe_int (pa_cons pe_int pa_nil)))) (pa_cons (pe_tup (pa_cons pe_int (pa_cons pe_int (pa_cons pe_int pa_nil)))) (pa_cons (pe_tup (pa_cons pe_int (pa_cons pe_int (pa_cons pe_int pa_nil)))) (pa_cons (pe_tup (pa_cons pe_int (pa_cons pe_int (pa_cons pe_int pa_nil)))) (pa_cons (pe_tup (pa_cons pe_int (pa_cons pe_int (pa_cons pe_int pa_nil)))) (pa_cons (pe_tup (pa_cons pe_int (pa_cons pe_int (pa_cons pe_int pa_nil)))) (pa_cons (pe_tup (pa_cons pe_int (pa_cons pe_int (pa_cons pe_int pa_nil)))) pa_nil))))))))))))), ?_⟩
    refine seq_i (asg_i (lst_i ?_))
    refine row_step (Same.refl H) (Rows.nil H) fun a1 Ha sa ra => ?_
    refine row_step sa ra fun a2 Ha sa ra => ?_
    refine row_step sa ra fun a3 Ha sa ra => ?_
    refine row_step sa ra fun a4 Ha sa ra => ?_
    refine row_step sa ra fun a5 Ha sa ra => ?_
    refine row_step sa ra fun a6 Ha sa ra => ?_
    refine row_step sa ra fun a7 Ha sa ra => ?_
    refine row_step sa ra fun a8 Ha sa ra => ?_
    refine row_step sa ra fun a9 Ha sa ra => ?_
    refine ⟨by show 9 ≤ sizeLine; decide, fun L1 n1 => ?_⟩
    have ra' : Rows Ha [(a1, (2, 1, 1)), (a2, (2, 2, 1)), (a3, (2, 2, 1)), (a4, (2, 2, 2)), (a5, (2, 2, 2)), (a6, (2, 3, 1)), (a7, (2, 3, 1)), (a8, (2, 3, 2)), (a9, (2, 2, 3))] := ra
    have hL1 : upd Ha L1 (.lst [.ref a1, .ref a2, .ref a3, .ref a4, .ref a5, .ref a6, .ref a7, .ref a8, .ref a9]) L1 = some (.lst [.ref a1, .ref a2, .ref a3, .ref a4, .ref a5, .ref a6, .ref a7, .ref a8, .ref a9]) := upd_same
    refine ⟨_, rfl, ?_⟩
    refine lst_i ?_
    refine row_step (Same.refl _) (Rows.nil _) fun b1 Hb sb rb => ?_
    refine row_step sb rb fun b2 Hb sb rb => ?_
    refine row_step sb rb fun b3 Hb sb rb => ?_
    refine row_step sb rb fun b4 Hb sb rb => ?_
    refine row_step sb rb fun b5 Hb sb rb => ?_
    refine row_step sb rb fun b6 Hb sb rb => ?_
    refine row_step sb rb fun b7 Hb sb rb => ?_
    refine row_step sb rb fun b8 Hb sb rb => ?_
    refine ⟨by show 8 ≤ sizeLine; decide, fun L2 n2 => ?_⟩
    have rb' : Rows Hb [(b1, (2, 1, 3)), (b2, (2, 2, 4)), (b3, (2, 4, 1)), (b4, (2, 4, 2)), (b5, (2, 3, 3)), (b6, (2, 3, 4)), (b7, (3, 2, 1)), (b8, (3, 1, 2))] := rb
    refine ⟨L1, L2, _, _, rfl, rfl, same_upd n2 _ _ (sb _ _ hL1), upd_same, by show 9 + 8 ≤ sizeLine; decide, fun L3 n3 => ?_⟩
    have u2 := same_upd (o := .lst [V.ref b1, V.ref b2, V.ref b3, V.ref b4, V.ref b5, V.ref b6, V.ref b7, V.ref b8]) n2
    have u3 := same_upd (o := .lst ([V.ref a1, V.ref a2, V.ref a3, V.ref a4, V.ref a5, V.ref a6, V.ref a7, V.ref a8, V.ref a9] ++ [V.ref b1, V.ref b2, V.ref b3, V.ref b4, V.ref b5, V.ref b6, V.ref b7, V.ref b8])) n3
    have s2 := (sb.trans u2).trans u3
    refine ⟨_, rfl, ?_⟩
    refine lst_i ?_
    refine row_step (Same.refl _) (Rows.nil _) fun c1 Hc sc rc => ?_
    refine row_step sc rc fun c2 Hc sc rc => ?_
    refine row_step sc rc fun c3 Hc sc rc => ?_
    refine row_step sc rc fun c4 Hc sc rc => ?_
    refine row_step sc rc fun c5 Hc sc rc => ?_
    refine row_step sc rc fun c6 Hc sc rc => ?_
    refine row_step sc rc fun c7 Hc sc rc => ?_
    refine row_step sc rc fun c8 Hc sc rc => ?_
    refine ⟨by show 8 ≤ sizeLine; decide, fun L4 n4 => ?_⟩
    have rc' : Rows Hc [(c1, (3, 2, 2)), (c2, (3, 3, 1)), (c3, (3, 1, 4)), (c4, (4, 1, 1)), (c5, (4, 2, 1)), (c6, (4, 1, 2)), (c7, (4, 2, 2)), (c8, (4, 1, 3))] := rc
    refine ⟨L3, L4, _, _, rfl, rfl, same_upd n4 _ _ (sc _ _ upd_same), upd_same, by show 17 + 8 ≤ sizeLine; decide, fun L5 n5 => ?_⟩
    have u1 := same_upd (o := .lst [V.ref a1, V.ref a2, V.ref a3, V.ref a4, V.ref a5, V.ref a6, V.ref a7, V.ref a8, V.ref a9]) n1
    have u4 := same_upd (o := .lst [V.ref c1, V.ref c2, V.ref c3, V.ref c4, V.ref c5, V.ref c6, V.ref c7, V.ref c8]) n4
    have u5 := same_upd (o := .lst ([V.ref a1, V.ref a2, V.ref a3, V.ref a4, V.ref a5, V.ref a6, V.ref a7, V.ref a8, V.ref a9] ++ [V.ref b1, V.ref b2, V.ref b3, V.ref b4, V.ref b5, V.ref b6, V.ref b7, V.ref b8] ++ [V.ref c1, V.ref c2, V.ref c3, V.ref c4, V.ref c5, V.ref c6, V.ref c7, V.ref c8])) n5
    have s3 := (sc.trans u4).trans u5
    have sb2 := (u2.trans u3).trans s3
    have sa2 := (u1.trans s2).trans s3
    refine q _ L5 ([(a1, (2, 1, 1)), (a2, (2, 2, 1)), (a3, (2, 2, 1)), (a4, (2, 2, 2)), (a5, (2, 2, 2)), (a6, (2, 3, 1)), (a7, (2, 3, 1)), (a8, (2, 3, 2)), (a9, (2, 2, 3))] ++ [(b1, (2, 1, 3)), (b2, (2, 2, 4)), (b3, (2, 4, 1)), (b4, (2, 4, 2)), (b5, (2, 3, 3)), (b6, (2, 3, 4)), (b7, (3, 2, 1)), (b8, (3, 1, 2))] ++ [(c1, (3, 2, 2)), (c2, (3, 3, 1)), (c3, (3, 1, 4)), (c4, (4, 1, 1)), (c5, (4, 2, 1)), (c6, (4, 1, 2)), (c7, (4, 2, 2)), (c8, (4, 1, 3))]) (sa.trans sa2) ((((sa.trans u1).trans s2).trans (sc.trans u4)).free n5) upd_same (((ra'.same sa2).app (rb'.same sb2)).app (rc'.same (u4.trans u5))) rfl
end
end WP
namespace WP
open PySem L2
/-- what is known of a shape -/
def OkS (s w k : Nat) : Prop := (s = 2 ∨ s = 3 ∨ s = 4) ∧ 1 ≤ w ∧ w ≤ 5 ∧ 1 ≤ k ∧ k ≤ 4 ∧ s ^ (w + k - 1) ≤ 256
instance (s w k : Nat) : Decidable (OkS s w k) := by
  unfold OkS
  infer_instance
def okX (x : Shp) : Bool := decide (x.1 = ((x.1.toNat : Nat) : Int) ∧ x.2.1 = ((x.2.1.toNat : Nat) : Int) ∧ x.2.2 = ((x.2.2.toNat : Nat) : Int) ∧ OkS x.1.toNat x.2.1.toNat x.2.2.toNat)
theorem okX_nat {x : Shp} (h : okX x = true) : ∃ s w k : Nat, x = ((s : Int), (w : Int), (k : Int)) ∧ OkS s w k := by
  obtain ⟨h1, h2, h3, h4⟩ := of_decide_eq_true h
  exact ⟨_, _, _, Prod.ext h1 (Prod.ext h2 h3), h4⟩
theorem shapes_ok : ∀ x ∈ shapesL, okX x = true := by
  have h : shapesL.all okX = true := by decide +kernel
  exact fun x hx => List.all_eq_true.mp h x hx
/-- how many texts around a place -/
def okM (most : Nat) (p : Addr × Shp) : Bool := decide (((p.2.1.toNat ^ (2 * p.2.2.1.toNat + p.2.2.2.toNat - 2) : Nat) : Int) ≤ (most : Int))
theorem filt_succ {α β : Type} (f : α → Bool) (g : α → β) {l : List α} {i : Nat} {x : α} (h : l[i]? = some x) :
    (f x = true → ((l.take (i + 1)).filter f).map g = ((l.take i).filter f).map g ++ [g x]) ∧ (f x = false → ((l.take (i + 1)).filter f).map g = ((l.take i).filter f).map g) := by
  rw [List.take_add_one, h]
  show (f x = true → ((l.take i ++ [x]).filter f).map g = _) ∧ (f x = false → ((l.take i ++ [x]).filter f).map g = _)
  rw [List.filter_append]
  constructor
  · intro e
    rw [List.filter_cons_of_pos e, List.map_append]
    rfl
  · intro e
    rw [List.filter_cons_of_neg (by rw [e]; exact Bool.false_ne_true), List.filter_nil, List.append_nil]
/-- the same rules, the written part named (within comprehensions) -/
theorem ixT (K : PySem.W.Frag) {X : Cx} (h : X.K = K := by rfl) : IxR X (rIxT K) := by
  subst h
  exact ix_tup
theorem ixL (K : PySem.W.Frag) {X : Cx} (h : X.K = K := by rfl) : IxR X (rIxL K) := by
  subst h
  exact ix_list
theorem inSq (K : PySem.W.Frag) {X : Cx} (h : X.K = K := by rfl) : OpR X (compareOp .In) (rIn K false) := by
  subst h
  exact op_in_seq
section
variable {K : PySem.W.Frag} {mg : Str → Option Value} {base : Heap} {w : World} {P : Program}
def spShape : Sp := fun vs H Q _ => ∃ (b : Addr) (most : Nat), vs = [.ref b, .int most] ∧ Box H b ∧ 2 ≤ most ∧
  ∀ H' a (s w k : Nat), But b H H' → Box H' b → H' a = some (tup3 ((s : Int), (w : Int), (k : Int))) → OkS s w k → s ^ (2 * w + k - 2) ≤ most → Q (.ref a) H'
theorem scShape : FnScope ["_law_box_here", "_law_most", "_law_one"] ["_law_box_here", "_law_most"] (defScope s_shape) :=
  ⟨rfl, rfl, rfl, by decide +kernel, rfl, by decide +kernel, by decide +kernel⟩
theorem ok_shape {f fP fS fW : Addr} {fd fdP fdS fdW : FuncData} (F : Fun K "_law_shape" "_law_shape" s_shape f fd)
    (GP : FnOk P w K mg base CX0 2 fP fdP ["_law_box_here", "_law_items"] (spPick K)) (kP : PySem.W.keepIn K (.ref fP) = true) (bP : Binds K fdP ["_law_box_here", "_law_items"] []) (gP : mg "_law_pick" = some (.ref fP))
    (GS : FnOk P w K mg base CX0 1 fS fdS [] spShapes) (kS : PySem.W.keepIn K (.ref fS) = true) (bS : Binds K fdS [] []) (gS : mg "_law_shapes" = some (.ref fS))
    (GW : FnOk P w K mg base CX0 1 fW fdW ["_law_base", "_law_many"] spPower) (kW : PySem.W.keepIn K (.ref fW) = true) (bW : Binds K fdW ["_law_base", "_law_many"] []) (gW : mg "_law_power" = some (.ref fW)) :
    FnOk P w K mg base CX0 3 f fd ["_law_box_here", "_law_most"] spShape := by
  refine F.ok scShape (fun vs H Q E h => ?_) (fun cdv A outer s₀ H vs Q E hr h => ?_)
  · obtain ⟨b, m, rfl, _⟩ := h
    rfl
  · obtain ⟨b, m, rfl, hb, hm, q⟩ := h
    have hr1 : Room 1 _ := hr.mono (by decide)
    refine ⟨_, pss_one (ps_ret (pe_call GP (hr.mono (by decide)) (by rfl) gP kP bP .nil pass0 (pa_cons (pv 0) (pa_cons
      (pe_lc (own := [("_law_one", 2)]) (g := gName 2) rfl scShape.nd (pi_list (pe_call0 GS hr1 (by rfl) gS kS bS .nil pass0))
        (blkOk_by (own := [("_law_one", 2)]) (N := ["_law_box_here", "_law_most", "_law_one"]) (sc := defScope s_shape) (by decide +kernel))
        (fun _ _ _ _ _ => pg_name (i := 2) scShape.nd rfl (.inl rfl))
        (fun _ _ _ _ _ => pts_one (pt_cmpR op_le (pe_call GW hr1 (by rfl) gW kW bW .nil pass0 (pa_cons (pe_ix (ixT K) (pv 2) pe_int (fun _ _ => rfl)) (pa_cons
          (pe_op op_sub (pe_op op_add (pe_op op_mul pe_int (pe_ix (ixT K) (pv 2) pe_int (fun _ _ => rfl))) (pe_ix (ixT K) (pv 2) pe_int (fun _ _ => rfl))) pe_int) pa_nil))) (pv 1) (nomark _)))
        (fun _ _ _ _ _ => pv 2)) pa_nil)))), ?_⟩
    refine ⟨_, rfl, rfl, fun H1 p ps s1 np hp hrow e => ⟨p, rfl, ⟨_, .inl (.inl hp)⟩, fun D nD => ?_⟩⟩
    have all_ok : ∀ x ∈ ps, okX x.2 = true := fun x hx => shapes_ok _ (by rw [← e]; exact List.mem_map_of_mem hx)
    refine lc_acc (walk_list (K := K) (a := p) (xs := refs ps)) nD (fun i => ((ps.take i).filter (okM m)).map fun x => .ref x.1) rfl (fun i hi => ?_) (fun H2 s2 => .inl (.inl (s2 _ _ hp))) ?_ ?_
    · refine big_size (Nat.le_trans (m := ps.length) ?_ ?_)
      · rw [List.length_map]
        exact Nat.le_trans (List.length_filter_le _ _) (by rw [List.length_take]; exact Nat.min_le_right _ _)
      · have h1 := congrArg List.length e
        rw [List.length_map] at h1
        rw [h1]
        decide
    · rintro i x H2 H2' hi s2 ⟨rfl, hx⟩ kk k0
      obtain ⟨y, hy, rfl⟩ : ∃ y, ps[i]? = some y ∧ x = .ref y.1 := by
        unfold refs at hx
        rw [List.getElem?_map] at hx
        cases hq : ps[i]? with
        | none =>
          rw [hq] at hx
          cases hx
        | some y =>
          rw [hq] at hx
          exact ⟨y, rfl, (Option.some.inj hx).symm⟩
      obtain ⟨s, w, k, ey, ok⟩ := okX_nat (all_ok y (List.mem_of_getElem? hy))
      have h3 : H2' y.1 = some (tup3 ((s : Int), (w : Int), (k : Int))) := by
        rw [← ey]
        exact s2 _ _ (hrow y (List.mem_of_getElem? hy))
      have hT : SqT K H2' y.1 [.int s, .int w, .int k] := SqT.of h3
      obtain ⟨ok1, ok2, ok3, ok4, ok5, ok6⟩ := ok
      refine ⟨rfl, ?_⟩
      refine ⟨_, rfl, y.1, _, _, _, rfl, rfl, hT, atI_nat (j := 0) rfl, _, rfl, y.1, _, _, _, rfl, rfl, hT, atI_nat (j := 1) rfl, _, _, rfl, rfl, .inl ⟨by decide, by decide⟩, _, rfl, y.1, _, _, _, rfl, rfl, hT, atI_nat (j := 2) rfl, _, _, rfl, rfl, _, _, rfl, rfl, ?_⟩
      refine ⟨s, 2 * w + k - 2, ?_, by omega, by omega, ?_⟩
      · show [V.int s, V.int (2 * (w : Int) + k - 2)] = _
        have e2 : (2 * (w : Int) + k - 2) = ((2 * w + k - 2 : Nat) : Int) := by omega
        rw [e2]
      · refine ⟨_, rfl, _, _, rfl, rfl, _, rfl, ?_⟩
        have em : okM m y = decide (((s ^ (2 * w + k - 2) : Nat) : Int) ≤ (m : Int)) := by
          unfold okM
          rw [ey]
          simp only [Int.toNat_natCast]
        have fs := filt_succ (okM m) (fun x : Addr × Shp => V.ref x.1) hy
        rw [em] at fs
        cases ed : decide (((s ^ (2 * w + k - 2) : Nat) : Int) ≤ (m : Int)) with
        | true =>
          show if true = true then _ else _
          rw [if_pos rfl]
          exact ⟨_, rfl, kk _ _ (Same.refl _) (fs.1 ed)⟩
        | false =>
          show if false = true then _ else _
          rw [if_neg (show ¬ false = true by decide)]
          exact k0 _ (Same.refl _) (fs.2 ed)
    · intro H2 s2 hD
      have el : (refs ps).length = ps.length := List.length_map _
      rw [el, List.take_length] at hD
      have hlen : ps.length = 25 := by
        have h1 := congrArg List.length e
        rw [List.length_map] at h1
        rw [h1]
        decide
      have h0 : 0 < (ps.filter (okM m)).length := by
        cases ps with
        | nil => cases hlen
        | cons y r =>
          have e2 : y.2 = (2, 1, 1) := (List.cons.inj e).1
          have eo : okM m y = true := by
            unfold okM
            rw [e2]
            exact decide_eq_true (by show ((2 ^ (2 * 1 + 1 - 2) : Nat) : Int) ≤ m; omega)
          rw [List.filter_cons_of_pos eo]
          exact Nat.succ_pos _
      refine ⟨b, D, _, rfl, (hb.same s1).same s2, .inl (.inl hD), box_ne (hb.same s1) nD, by rw [List.length_map]; exact h0, ?_, fun H3 j x hx b3 hb3 => ?_⟩
      · rw [List.length_map]
        exact Nat.lt_of_le_of_lt (List.length_filter_le _ _) (by omega)
      · rw [List.getElem?_map] at hx
        cases hq : (ps.filter (okM m))[j]? with
        | none =>
          rw [hq] at hx
          cases hx
        | some y =>
          rw [hq] at hx
          have ex : x = .ref y.1 := (Option.some.inj hx).symm
          subst ex
          obtain ⟨my, oy⟩ := List.mem_filter.mp (List.mem_of_getElem? hq)
          obtain ⟨s, w, k, ey, ok⟩ := okX_nat (all_ok y my)
          have hy := (Same.toBut (b := b) (s1.trans s2)).trans b3
          have yb : y.1 ≠ b := by
            obtain ⟨i0, j0, k0, e0, _⟩ := (hb.same s1)
            exact ne_of (hrow y my) e0 (by intro z; cases z)
          refine q H3 y.1 s w k hy hb3 (by rw [← ey]; exact b3 _ _ (s2 _ _ (hrow y my)) yb) ok ?_
          have h5 := of_decide_eq_true oy
          rw [ey] at h5
          simp only [Int.toNat_natCast] at h5
          omega
end
end WP
namespace WP
open PySem L2
abbrev s_first : Stmt := top 33
abbrev s_by_order : Stmt := top 34
/-! ### slices of texts -/
theorem cut_tx (ds : List Nat) (lo hi : Option Int) : cutS (tx ds) lo hi = tx ((ds.drop (HT.sIx ds.length 0 lo)).take (HT.sIx ds.length ds.length hi - HT.sIx ds.length 0 lo)) := by
  unfold cutS
  rw [tx_len]
  show SX.S (((cod ds).drop _).take _) = SX.S (cod _)
  unfold cod
  rw [List.map_take, List.map_drop (l := ds)]
theorem cut_mid (ds : List Nat) (a c : Nat) : cutS (tx ds) (some (a : Int)) (some (c : Int)) = tx ((ds.drop a).take (c - a)) := by
  rw [cut_tx, HT.sIx_nat, HT.sIx_nat]
  congr 1
  by_cases h : a ≤ ds.length
  · rw [Nat.min_eq_left h]
    by_cases h2 : c ≤ ds.length
    · rw [Nat.min_eq_left h2]
    · rw [Nat.min_eq_right (show ds.length ≤ c by omega), List.take_of_length_le (by rw [List.length_drop]; omega), List.take_of_length_le (by rw [List.length_drop]; omega)]
  · rw [Nat.min_eq_right (show ds.length ≤ a by omega), List.drop_eq_nil_of_le (Nat.le_refl ds.length), List.drop_eq_nil_of_le (show ds.length ≤ a by omega), List.take_nil, List.take_nil]
theorem cut_front (ds : List Nat) : cutS (tx ds) none (some (-1)) = tx ds.dropLast := by
  rw [cut_tx, HT.sIx_none]
  have e : HT.sIx ds.length ds.length (some (-1)) = ds.length - 1 := by
    show (if (-1 : Int) < 0 then ((-1 : Int) + (ds.length : Int)).toNat else min (-1 : Int).toNat ds.length) = ds.length - 1
    rw [if_pos (by decide)]
    omega
  rw [e]
  show tx ((ds.drop 0).take (ds.length - 1 - 0)) = _
  rw [List.drop_zero, Nat.sub_zero, List.dropLast_eq_take]
theorem cut_tail (ds : List Nat) : cutS (tx ds) (some 1) none = tx ds.tail := by
  rw [cut_tx, HT.sIx_none, show HT.sIx ds.length 0 (some 1) = min 1 ds.length from HT.sIx_nat ds.length 0 1]
  congr 1
  cases ds with
  | nil => rfl
  | cons x r =>
    rw [show min 1 (x :: r).length = 1 by rw [List.length_cons]; omega]
    show r.take ((x :: r).length - 1) = r
    rw [List.length_cons, Nat.add_sub_cancel]
    exact List.take_length
/-! ### the piece that comes first -/
/-- the w pieces of k letters of a window -/
def pcs (w k : Nat) (ds : List Nat) : List (List Nat) := (List.range w).map fun i => (ds.drop i).take k
def bestP (ord pc : List (List Nat)) : List Nat := (ord.filter fun p => decide (p ∈ pc)).headD []
def spots (pc : List (List Nat)) (b : List Nat) : List Nat := (List.range pc.length).filter fun i => decide (pc[i]? = some b)
def fstO (ord : List (List Nat)) (last : Bool) (pc : List (List Nat)) : Nat :=
  if last then ((spots pc (bestP ord pc)).getLastD 0) else ((spots pc (bestP ord pc)).headD 0)
theorem pcs_len (w k : Nat) (ds : List Nat) : (pcs w k ds).length = w := by
  unfold pcs
  rw [List.length_map, List.length_range (n := w)]
theorem pcs_get {w k : Nat} {ds : List Nat} {i : Nat} (h : i < w) : (pcs w k ds)[i]? = some ((ds.drop i).take k) := by
  unfold pcs
  rw [List.getElem?_map, List.getElem?_range h]
  rfl
theorem best_in {ord pc : List (List Nat)} (h : ∃ p ∈ ord, p ∈ pc) : bestP ord pc ∈ ord ∧ bestP ord pc ∈ pc := by
  unfold bestP
  obtain ⟨p, h1, h2⟩ := h
  have hm : p ∈ ord.filter fun p => decide (p ∈ pc) := List.mem_filter.mpr ⟨h1, decide_eq_true h2⟩
  cases e : ord.filter fun p => decide (p ∈ pc) with
  | nil =>
    rw [e] at hm
    cases hm
  | cons x r =>
    have hx : x ∈ ord.filter fun p => decide (p ∈ pc) := by
      rw [e]
      exact List.mem_cons_self
    obtain ⟨h3, h4⟩ := List.mem_filter.mp hx
    exact ⟨h3, of_decide_eq_true h4⟩
theorem spots_mem {pc : List (List Nat)} {b : List Nat} {i : Nat} : i ∈ spots pc b ↔ pc[i]? = some b := by
  unfold spots
  rw [List.mem_filter, List.mem_range]
  constructor
  · exact fun h => of_decide_eq_true h.2
  · exact fun h => ⟨(List.getElem?_eq_some_iff.mp h).1, decide_eq_true h⟩
theorem spots_ne {pc : List (List Nat)} {b : List Nat} (h : b ∈ pc) : spots pc b ≠ [] := by
  obtain ⟨i, hi⟩ := List.getElem?_of_mem h
  intro e
  have := spots_mem.mpr hi
  rw [e] at this
  cases this
theorem getLastD_mem {l : List Nat} (h : l ≠ []) (d : Nat) : l.getLastD d ∈ l := by
  cases l with
  | nil => exact absurd rfl h
  | cons x r =>
    rw [List.getLastD_cons]
    cases r with
    | nil => exact List.mem_cons_self
    | cons y r =>
      rw [← List.getLast_eq_getLastD (h := by simp)]
      exact List.mem_cons_of_mem _ (List.getLast_mem _)
theorem fstO_mem {ord : List (List Nat)} {last : Bool} {pc : List (List Nat)} (h : ∃ p ∈ ord, p ∈ pc) : fstO ord last pc ∈ spots pc (bestP ord pc) := by
  have hne := spots_ne (best_in h).2
  unfold fstO
  cases last with
  | true => exact getLastD_mem hne 0
  | false =>
    show (spots pc (bestP ord pc)).headD 0 ∈ _
    cases e : spots pc (bestP ord pc) with
    | nil => exact absurd e hne
    | cons x r => exact List.mem_cons_self
theorem fstO_lt {ord : List (List Nat)} {last : Bool} {pc : List (List Nat)} (h : ∃ p ∈ ord, p ∈ pc) : fstO ord last pc < pc.length :=
  (List.getElem?_eq_some_iff.mp (spots_mem.mp (fstO_mem (last := last) h))).1
theorem rngf_succ {β : Type} (f : Nat → Bool) (g : Nat → β) (i : Nat) :
    (f i = true → ((List.range (i + 1)).filter f).map g = ((List.range i).filter f).map g ++ [g i]) ∧ (f i = false → ((List.range (i + 1)).filter f).map g = ((List.range i).filter f).map g) := by
  rw [List.range_succ, List.filter_append]
  constructor
  · intro e
    rw [List.filter_cons_of_pos e, List.map_append]
    rfl
  · intro e
    rw [List.filter_cons_of_neg (by rw [e]; exact Bool.false_ne_true), List.filter_nil, List.append_nil]
theorem inV_tv {p : List Nat} {l : List (List Nat)} : inV (tv p) (l.map tv) = decide (p ∈ l) := by
  unfold inV
  rw [List.any_map, Bool.eq_iff_iff, List.any_eq_true, decide_eq_true_iff]
  constructor
  · rintro ⟨x, hx, e⟩
    have e2 : (tx x == tx p) = true := e
    have e3 := tx_inj (eq_of_beq e2)
    rw [← e3]
    exact hx
  · intro h
    refine ⟨p, h, ?_⟩
    show (tx p == tx p) = true
    exact beq_self_eq_true _
theorem flat_tv (l : List (List Nat)) : (l.map tv).all flatV = true := by
  rw [List.all_eq_true]
  intro x hx
  obtain ⟨y, _, rfl⟩ := List.mem_map.mp hx
  rfl
theorem tv_at {l : List (List Nat)} {i : Nat} {x : V} (h : (l.map tv)[i]? = some x) : ∃ t, l[i]? = some t ∧ x = tv t := by
  rw [List.getElem?_map] at h
  cases e : l[i]? with
  | none =>
    rw [e] at h
    cases h
  | some t =>
    rw [e] at h
    exact ⟨t, rfl, (Option.some.inj h).symm⟩
section
variable {K : PySem.W.Frag} {mg : Str → Option Value} {base : Heap} {w : World} {P : Program}
abbrev nFirst : List Str := ["_law_shape_here", "_law_order", "_law_is_last", "_law_window", "_law_pieces", "_law_best", "_law_spots", "_law_at", "_law_piece"]
theorem scFirst : FnScope nFirst ["_law_shape_here", "_law_order", "_law_is_last", "_law_window"] (defScope s_first) :=
  ⟨rfl, rfl, rfl, by decide +kernel, rfl, by decide +kernel, by decide +kernel⟩
def spFirst (K : PySem.W.Frag) : Sp := fun vs H Q _ => ∃ (a o : Addr) (last : Bool) (ds : List Nat) (s w k : Nat) (ord : List (List Nat)), vs = [.ref a, .ref o, .bl last, tv ds] ∧ H a = some (tup3 ((s : Int), (w : Int), (k : Int))) ∧ OkS s w k ∧
  SqL K H o (ord.map tv) ∧ ord.length ≤ 1000 ∧ ds.length ≤ 1000 ∧ (∃ p ∈ ord, p ∈ pcs w k ds) ∧ ∀ H', Same H H' → Q (.int (fstO ord last (pcs w k ds) : Nat)) H'
theorem ok_first {f : Addr} {fd : FuncData} (F : Fun K "_law_first" "_law_first" s_first f fd) (mr : mg "range" = none) (me : mg "enumerate" = none) :
    FnOk P w K mg base CX0 1 f fd ["_law_shape_here", "_law_order", "_law_is_last", "_law_window"] (spFirst K) := by
  refine F.ok scFirst (fun vs H Q E h => ?_) (fun cdv A outer s₀ H vs Q E hr h => ?_)
  · obtain ⟨a, o, last, ds, s, w, k, ord, rfl, _⟩ := h
    rfl
  · obtain ⟨a, o, last, ds, s, w, k, ord, rfl, ha, ok, hO, hol, hdl, hex, q⟩ := h
    obtain ⟨ok1, ok2, ok3, ok4, ok5, ok6⟩ := ok
    refine ⟨_, pss_cons (ps_set (i := 4) scFirst.nd rfl (.inr rfl) (pe_lc (own := [("_law_at", 7)]) (g := gName 7) (tt := tYes) rfl scFirst.nd (pi_range1 (by rfl) mr (pa_cons (pe_ix ix_tup (pv 0) pe_int (fun _ _ => rfl)) pa_nil))
        (blkOk_by (own := [("_law_at", 7)]) (N := nFirst) (sc := defScope s_first) (by decide +kernel))
        (fun _ _ _ _ _ => pg_name (i := 7) scFirst.nd rfl (.inl rfl)) (fun _ _ _ _ _ => pts_nil)
        (fun _ _ _ _ _ => pe_slice sl_str (pv 3) (po_some (pv 7)) (po_some (pe_op op_add (pv 7) (pe_ix (ixT K) (pv 0) pe_int (fun _ _ => rfl)))))))
      (pss_cons (ps_set (i := 5) scFirst.nd rfl (.inr rfl) (pe_ix ix_list (pe_lc (own := [("_law_piece", 8)]) (g := gName 8) rfl scFirst.nd (pi_list (pv 1))
        (blkOk_by (own := [("_law_piece", 8)]) (N := nFirst) (sc := defScope s_first) (by decide +kernel))
        (fun _ _ _ _ _ => pg_name (i := 8) scFirst.nd rfl (.inl rfl)) (fun _ _ _ _ _ => pts_one (pt_cmpR (inSq K) (pv 8) (pv 4) (by rfl)))
        (fun _ _ _ _ _ => pv 8)) pe_int (fun _ _ => rfl)))
      (pss_cons (ps_setLc (i := 6) (own := [("_law_at", 7), ("_law_piece", 8)]) (g := gTup K 2 (gCons (gName 7) (gCons (gName 8) gNil))) rfl scFirst.nd rfl rfl (sw_true rfl rfl rfl (by decide +kernel)) (pi_enum (by rfl) me (pa_cons (pv 4) pa_nil))
        (blkOk_by (own := [("_law_at", 7), ("_law_piece", 8)]) (N := nFirst) (sc := defScope s_first) (by decide +kernel))
        (fun _ _ _ _ _ => pg_tup rfl (pgs_cons (pg_name (i := 7) scFirst.nd rfl (.inl rfl)) (pgs_cons (pg_name (i := 8) scFirst.nd rfl (.inl rfl)) pgs_nil)))
        (fun _ _ _ _ _ => pts_one (pt_cmpR op_eq (pv 8) (pv 5) (nomark _))) (fun _ _ _ _ _ => pv 7))
      (pss_one (ps_ret (pe_ifExp (pt_val (pv 2)) (pe_ix ix_list (pv 6) (pe_op op_sub pe_int pe_int) (fun _ _ => rfl)) (pe_ix ix_list (pv 6) pe_int (fun _ _ => rfl))))))), ?_⟩
    have hT : SqT K H a [.int s, .int w, .int k] := SqT.of ha
    refine ⟨_, rfl, a, _, _, _, rfl, rfl, hT, atI_nat (j := 1) rfl, w, rfl, by omega, by omega, fun D nD => ?_⟩
    refine lc_acc walk_range nD (fun i => ((pcs w k ds).take i).map tv) rfl (fun i hi => ?_) (fun _ _ => trivial) ?_ ?_
    · rw [List.length_map, List.length_take, pcs_len]
      exact big_size (by omega)
    · rintro i x H1 H1' hi s1 ⟨rfl, rfl⟩ kk k0
      rw [Int.toNat_natCast] at hi
      refine ⟨rfl, yes_i ?_⟩
      refine ⟨_, rfl, _, rfl, _, rfl, _, rfl, _, rfl, a, _, _, _, rfl, rfl, SqT.of (s1 _ _ ha), atI_nat (j := 2) rfl, _, _, rfl, rfl, _, rfl, tx ds, rfl, ?_, kk _ _ (Same.refl _) ?_⟩
      · rw [tx_len]
        exact Nat.le_of_lt (big_size (by omega))
      · show ((pcs w k ds).take (i + 1)).map tv = _ ++ [V.str (cutS (tx ds) (some (0 + (i : Int))) (some (0 + (i : Int) + k)))]
        have e1 : (0 : Int) + (i : Int) = ((i : Nat) : Int) := by omega
        have e2 : ((i : Nat) : Int) + (k : Int) = ((i + k : Nat) : Int) := by omega
        rw [e1, e2, cut_mid, Nat.add_sub_cancel_left, List.take_add_one, pcs_get hi, List.map_append]
        rfl
    · intro H1 s1 hD
      rw [Int.toNat_natCast] at hD
      have hD : H1 D = some (.lst ((pcs w k ds).map tv)) := by
        rw [List.take_of_length_le (Nat.le_of_eq (pcs_len w k ds))] at hD
        exact hD
      -- the best one: the first of the order that is a piece
      refine ⟨_, rfl, o, rfl, ⟨_, s1.seq hO⟩, fun B nB => ?_⟩
      refine lc_acc (walk_list (K := K) (a := o) (xs := ord.map tv)) nB (fun i => ((ord.take i).filter fun p => decide (p ∈ pcs w k ds)).map tv) rfl (fun i hi => ?_) (fun H2 s2 => (s1.trans s2).seq hO) ?_ ?_
      · rw [List.length_map]
        exact big_size (Nat.le_trans (List.length_filter_le _ _) (by rw [List.length_take]; omega))
      · rintro i x H2 H2' hi s2 ⟨rfl, hx⟩ kk k0
        obtain ⟨p, hp, rfl⟩ := tv_at hx
        refine ⟨rfl, ?_⟩
        refine ⟨_, rfl, _, rfl, D, _, rfl, .inl (.inl (.inl (s2 _ _ hD))), rfl, flat_tv _, _, rfl, ?_⟩
        have fs := filt_succ (fun p => decide (p ∈ pcs w k ds)) tv hp
        have e1 : (if false = true then !inV (tv p) ((pcs w k ds).map tv) else inV (tv p) ((pcs w k ds).map tv)) = decide (p ∈ pcs w k ds) := by
          rw [if_neg Bool.false_ne_true, inV_tv]
        rw [e1]
        cases ed : decide (p ∈ pcs w k ds) with
        | true =>
          show if true = true then _ else _
          rw [if_pos rfl]
          exact ⟨_, rfl, kk _ _ (Same.refl _) (fs.1 ed)⟩
        | false =>
          show if false = true then _ else _
          rw [if_neg (show ¬ false = true by decide)]
          exact k0 _ (Same.refl _) (fs.2 ed)
      · intro H2 s2 hB
        rw [List.length_map, List.take_length] at hB
        have hbest : ((ord.filter fun p => decide (p ∈ pcs w k ds)).map tv)[0]? = some (tv (bestP ord (pcs w k ds))) := by
          obtain ⟨p, h1, h2⟩ := hex
          have hm : p ∈ ord.filter fun p => decide (p ∈ pcs w k ds) := List.mem_filter.mpr ⟨h1, decide_eq_true h2⟩
          unfold bestP
          cases e : ord.filter fun p => decide (p ∈ pcs w k ds) with
          | nil =>
            rw [e] at hm
            cases hm
          | cons y r => rfl
        refine ⟨B, _, _, _, rfl, rfl, SqL.of hB, atI_nat (j := 0) hbest, ?_⟩
        -- its places
        have hD2 := s2 _ _ hD
        refine ⟨_, rfl, D, _, rfl, SqL.of hD2, fun C nC => ?_⟩
        refine lc_acc (walk_enum (K := K) (a := D) (xs := (pcs w k ds).map tv)) nC (fun i => ((List.range i).filter fun j => decide ((pcs w k ds)[j]? = some (bestP ord (pcs w k ds)))).map fun j => .int (j : Nat)) rfl (fun i hi => ?_) (fun H3 s3 => SqL.of (s3 _ _ hD2)) ?_ ?_
        · rw [List.length_map] at hi ⊢
          rw [pcs_len] at hi
          exact big_size (Nat.le_trans (List.length_filter_le _ _) (by rw [List.length_range]; omega))
        · rintro i x H3 H3' hi s3 ⟨T, x1, x2, rfl, nT, rfl, f1, f2⟩ kk k0
          have e1 : x1 = .int (i : Nat) := (Option.some.inj f1).symm
          obtain ⟨p, hp, e2⟩ := tv_at f2
          subst e1 e2
          refine ⟨T, [.int (i : Nat), tv p], rfl, .inl (.inl upd_same), rfl, .int (i : Nat), [tv p], rfl, tv p, [], rfl, rfl, rfl, ?_⟩
          refine ⟨_, rfl, _, rfl, rfl, _, rfl, ?_⟩
          have e3 : decide (tv p = tv (bestP ord (pcs w k ds))) = decide ((pcs w k ds)[i]? = some (bestP ord (pcs w k ds))) := by
            rw [hp, Bool.eq_iff_iff, decide_eq_true_iff, decide_eq_true_iff]
            exact ⟨fun h => by rw [tv_inj h], fun h => by rw [Option.some.inj h]⟩
          rw [e3]
          have fs := rngf_succ (fun j => decide ((pcs w k ds)[j]? = some (bestP ord (pcs w k ds)))) (fun j => V.int (j : Nat)) i
          cases ed : decide ((pcs w k ds)[i]? = some (bestP ord (pcs w k ds))) with
          | true =>
            show if true = true then _ else _
            rw [if_pos rfl]
            exact ⟨_, rfl, kk _ _ (same_upd nT) (fs.1 ed)⟩
          | false =>
            show if false = true then _ else _
            rw [if_neg (show ¬ false = true by decide)]
            exact k0 _ (same_upd nT) (fs.2 ed)
        · intro H3 s3 hC
          have hC : H3 C = some (.lst ((spots (pcs w k ds) (bestP ord (pcs w k ds))).map fun j => .int (j : Nat))) := by
            rw [List.length_map] at hC
            exact hC
          have hne := spots_ne (best_in hex).2
          have fin := q H3 ((s1.trans s2).trans s3)
          unfold fstO at fin
          refine ⟨_, rfl, last, rfl, ?_⟩
          generalize spots (pcs w k ds) (bestP ord (pcs w k ds)) = l at hne hC fin
          cases last with
          | true =>
            refine iteT ?_
            refine ⟨_, rfl, _, _, rfl, rfl, C, _, _, _, rfl, rfl, SqL.of hC, ?_, fin⟩
            have e5 := List.dropLast_concat_getLast hne
            have e6 : l.getLastD 0 = l.getLast hne := by
              cases l with
              | nil => exact absurd rfl hne
              | cons y r => rw [List.getLast_eq_getLastD, List.getLastD_cons]
            show atI (l.map fun j => V.int (j : Nat)) (-1) = some (V.int ((l.getLastD 0 : Nat) : Int))
            rw [e6]
            conv => lhs; rw [← e5]
            rw [List.map_append]
            exact atI_last _ _
          | false =>
            refine iteF ?_
            refine ⟨_, rfl, C, _, _, _, rfl, rfl, SqL.of hC, atI_nat (j := 0) ?_, fin⟩
            show (l.map fun j => V.int (j : Nat))[0]? = some (V.int ((l.headD 0 : Nat) : Int))
            cases l with
            | nil => exact absurd rfl hne
            | cons y r => rfl
end
end WP
namespace WP
open PySem L2
abbrev s_table : Stmt := top 35
abbrev s_rule : Stmt := top 36
abbrev iv (n : Nat) : V := .int (n : Int)
theorem iv_at {l : List Nat} {i : Nat} {x : V} (h : (l.map iv)[i]? = some x) : ∃ t, l[i]? = some t ∧ x = iv t := by
  rw [List.getElem?_map] at h
  cases e : l[i]? with
  | none =>
    rw [e] at h
    cases h
  | some t =>
    rw [e] at h
    exact ⟨t, rfl, (Option.some.inj h).symm⟩
def byO (s w k : Nat) (ord : List (List Nat)) (last : Bool) : List Nat := (allT s (w + k - 1)).map fun ds => fstO ord last (pcs w k ds)
/-- an order has all pieces -/
def AllP (s k : Nat) (ord : List (List Nat)) : Prop := ∀ p : List Nat, p.length = k → Dig s p → p ∈ ord
theorem Dig.take {s : Nat} {ds : List Nat} (h : Dig s ds) (n : Nat) : Dig s (ds.take n) := fun d hd => h d (List.mem_of_mem_take hd)
theorem Dig.drop {s : Nat} {ds : List Nat} (h : Dig s ds) (n : Nat) : Dig s (ds.drop n) := fun d hd => h d (List.mem_of_mem_drop hd)
theorem piece_in {s w k : Nat} {ord : List (List Nat)} {ds : List Nat} (hw : 1 ≤ w) (hA : AllP s k ord) (hl : w + k - 1 ≤ ds.length) (hd : Dig s ds) {i : Nat} (hi : i < w) : (ds.drop i).take k ∈ ord ∧ (ds.drop i).take k ∈ pcs w k ds :=
  ⟨hA _ (by rw [List.length_take, List.length_drop]; omega) ((hd.drop i).take k), List.mem_of_getElem? (pcs_get hi)⟩
theorem fst_ok {s w k : Nat} {ord : List (List Nat)} {ds : List Nat} (last : Bool) (hw : 1 ≤ w) (hA : AllP s k ord) (hl : w + k - 1 ≤ ds.length) (hd : Dig s ds) : (∃ p ∈ ord, p ∈ pcs w k ds) ∧ fstO ord last (pcs w k ds) < w := by
  have h : ∃ p ∈ ord, p ∈ pcs w k ds := ⟨_, (piece_in hw hA hl hd (i := 0) (by omega)).1, (piece_in hw hA hl hd (i := 0) (by omega)).2⟩
  refine ⟨h, ?_⟩
  have := fstO_lt (last := last) h
  rw [pcs_len] at this
  exact this
/-- a table of a shape -/
def Tab (s w k : Nat) (tb : List Nat) : Prop := tb.length = s ^ (w + k - 1) ∧ ∀ x ∈ tb, x < w
theorem byO_tab {s w k : Nat} {ord : List (List Nat)} {last : Bool} (hw : 1 ≤ w) (hA : AllP s k ord) : Tab s w k (byO s w k ord last) := by
  refine ⟨by unfold byO; rw [List.length_map, allT_len], fun x hx => ?_⟩
  obtain ⟨ds, hds, rfl⟩ := List.mem_map.mp hx
  obtain ⟨h1, h2⟩ := (allT_mem s _ ds).mp hds
  exact (fst_ok last hw hA (Nat.le_of_eq h1.symm) h2).2
theorem pow_k {s w k : Nat} (hs : s = 2 ∨ s = 3 ∨ s = 4) (hw : 1 ≤ w) (h : s ^ (w + k - 1) ≤ 256) : s ^ k ≤ 256 :=
  Nat.le_trans (Nat.pow_le_pow_right (by omega) (by omega)) h
def unV (v : V) : List Nat := match v with
  | .str z => z.cps.toList.map (· - 97)
  | _ => []
theorem unV_tv (t : List Nat) : unV (tv t) = t := by
  show (cod t).map (· - 97) = t
  unfold cod
  rw [List.map_map]
  have e : ((fun x : Nat => x - 97) ∘ fun x => 97 + x) = id := by
    funext x
    show 97 + x - 97 = x
    omega
  rw [e, List.map_id]
theorem perm_tv {ys : List V} {l : List (List Nat)} (h : ys.Perm (l.map tv)) : ∃ o : List (List Nat), ys = o.map tv ∧ o.Perm l := by
  have e1 : (l.map tv).map unV = l := by
    rw [List.map_map]
    have e : (unV ∘ tv) = id := funext unV_tv
    rw [e, List.map_id]
  refine ⟨ys.map unV, ?_, ?_⟩
  · rw [List.map_map]
    conv => lhs; rw [← List.map_id ys]
    refine List.map_congr_left fun y hy => ?_
    obtain ⟨t, _, rfl⟩ := List.mem_map.mp (h.mem_iff.mp hy)
    show tv t = tv (unV (tv t))
    rw [unV_tv]
  · have h2 := h.map unV
    rw [e1] at h2
    exact h2
theorem ixN_of {n : Nat} {j : Int} (h0 : 0 ≤ j) (h : j < n) : ixN n j = some j.toNat := by
  unfold ixN
  rw [if_pos h0, if_pos h]
theorem wk_int {w k : Nat} (hw : 1 ≤ w) : ((w : Int) + k - 1) = ((w + k - 1 : Nat) : Int) := by omega
section
variable {K : PySem.W.Frag} {mg : Str → Option Value} {base : Heap} {w : World} {P : Program}
/-! ### the table by an order -/
abbrev nBy : List Str := ["_law_shape_here", "_law_order", "_law_is_last", "_law_windows", "_law_window"]
theorem scBy : FnScope nBy ["_law_shape_here", "_law_order", "_law_is_last"] (defScope s_by_order) :=
  ⟨rfl, rfl, rfl, by decide +kernel, rfl, by decide +kernel, by decide +kernel⟩
def spBy (K : PySem.W.Frag) : Sp := fun vs H Q _ => ∃ (a o : Addr) (last : Bool) (s w k : Nat) (ord : List (List Nat)), vs = [.ref a, .ref o, .bl last] ∧ H a = some (tup3 ((s : Int), (w : Int), (k : Int))) ∧ OkS s w k ∧
  SqL K H o (ord.map tv) ∧ ord.length ≤ 1000 ∧ AllP s k ord ∧ ∀ H' p, Same H H' → H p = none → H' p = some (.lst ((byO s w k ord last).map iv)) → Q (.ref p) H'
theorem ok_by {f fX fF : Addr} {fd fdX fdF : FuncData} (F : Fun K "_law_by_order" "_law_by_order" s_by_order f fd)
    (GX : FnOk P w K mg base CX0 1 fX fdX ["_law_letters", "_law_size"] spTexts) (kX : PySem.W.keepIn K (.ref fX) = true) (bX : Binds K fdX ["_law_letters", "_law_size"] []) (gX : mg "_law_texts" = some (.ref fX))
    (GF : FnOk P w K mg base CX0 1 fF fdF ["_law_shape_here", "_law_order", "_law_is_last", "_law_window"] (spFirst K)) (kF : PySem.W.keepIn K (.ref fF) = true) (bF : Binds K fdF ["_law_shape_here", "_law_order", "_law_is_last", "_law_window"] []) (gF : mg "_law_first" = some (.ref fF)) :
    FnOk P w K mg base CX0 2 f fd ["_law_shape_here", "_law_order", "_law_is_last"] (spBy K) := by
  refine F.ok scBy (fun vs H Q E h => ?_) (fun cdv A outer s₀ H vs Q E hr h => ?_)
  · obtain ⟨a, o, last, s, w, k, ord, rfl, _⟩ := h
    rfl
  · obtain ⟨a, o, last, s, w, k, ord, rfl, ha, ok, hO, hol, hA, q⟩ := h
    obtain ⟨ok1, ok2, ok3, ok4, ok5, ok6⟩ := id ok
    refine ⟨_, pss_cons (ps_set (i := 3) scBy.nd rfl (.inl rfl) (pe_call GX (hr.mono (by decide)) (by rfl) gX kX bX .nil pass0 (pa_cons (pe_ix ix_tup (pv 0) pe_int (fun _ _ => rfl)) (pa_cons (pe_op op_sub (pe_op op_add (pe_ix ix_tup (pv 0) pe_int (fun _ _ => rfl)) (pe_ix ix_tup (pv 0) pe_int (fun _ _ => rfl))) pe_int) pa_nil))))
      (pss_one (ps_ret (pe_lc (own := [("_law_window", 4)]) (g := gName 4) (tt := tYes) rfl scBy.nd (pi_list (pv 3))
        (blkOk_by (own := [("_law_window", 4)]) (N := nBy) (sc := defScope s_by_order) (by decide +kernel))
        (fun _ _ _ _ _ => pg_name (i := 4) scBy.nd rfl (.inl rfl)) (fun _ _ _ _ _ => pts_nil)
        (fun _ _ _ _ _ => pe_call GF (hr.mono (by decide)) (by rfl) gF kF bF .nil pass0 (pa_cons (pv 0) (pa_cons (pv 1) (pa_cons (pv 2) (pa_cons (pv 4) pa_nil)))))))), ?_⟩
    have hT : SqT K H a [.int s, .int w, .int k] := SqT.of ha
    refine ⟨_, rfl, a, _, _, _, rfl, rfl, hT, atI_nat (j := 0) rfl, _, rfl, a, _, _, _, rfl, rfl, hT, atI_nat (j := 1) rfl, _, rfl, a, _, _, _, rfl, rfl, hT, atI_nat (j := 2) rfl, _, _, rfl, rfl, _, _, rfl, rfl, ?_⟩
    refine ⟨s, w + k - 1, ?_, ok1, by omega, by omega, fun H1 p1 s1 np hp => ?_⟩
    · show [V.int s, V.int ((w : Int) + k - 1)] = _
      rw [wk_int ok2]
    refine ⟨_, rfl, p1, rfl, ⟨_, SqL.of hp⟩, fun D nD => ?_⟩
    refine lc_acc (walk_list (K := K) (a := p1) (xs := (allT s (w + k - 1)).map tv)) nD (fun i => ((allT s (w + k - 1)).take i).map fun ds => iv (fstO ord last (pcs w k ds))) rfl (fun i hi => ?_) (fun H2 s2 => SqL.of (s2 _ _ hp)) ?_ ?_
    · rw [List.length_map, List.length_take, allT_len]
      exact big_size (by omega)
    · rintro i x H2 H2' hi s2 ⟨rfl, hx⟩ kk k0
      obtain ⟨ds, hds, rfl⟩ := tv_at hx
      obtain ⟨h1, h2⟩ := (allT_mem s _ ds).mp (List.mem_of_getElem? hds)
      refine ⟨rfl, yes_i ?_⟩
      refine ⟨_, rfl, _, rfl, _, rfl, _, rfl, a, o, last, ds, s, w, k, ord, rfl, s2 _ _ (s1 _ _ ha), ok, (s1.trans s2).seq hO, hol, by omega, (fst_ok last ok2 hA (Nat.le_of_eq h1.symm) h2).1, fun H3 s3 => kk _ _ s3 ?_⟩
      show ((allT s (w + k - 1)).take (i + 1)).map _ = _
      rw [List.take_add_one, hds, List.map_append]
      rfl
    · intro H2 s2 hD
      rw [List.length_map, List.take_length] at hD
      refine q _ D (s1.trans s2) (s1.free nD) ?_
      unfold byO
      rw [List.map_map]
      exact hD
/-! ### a drawn table -/
abbrev nTable : List Str := ["_law_box_here", "_law_shape_here", "_law_form", "_law_found", "_law_window"]
theorem scTable : FnScope nTable ["_law_box_here", "_law_shape_here"] (defScope s_table) :=
  ⟨rfl, rfl, rfl, by decide +kernel, rfl, by decide +kernel, by decide +kernel⟩
def spTable : Sp := fun vs H Q _ => ∃ (b a : Addr) (s w k : Nat), vs = [.ref b, .ref a] ∧ Box H b ∧ H a = some (tup3 ((s : Int), (w : Int), (k : Int))) ∧ OkS s w k ∧
  ∀ H' p tb, But b H H' → Box H' b → H p = none → H' p = some (.lst (tb.map iv)) → Tab s w k tb → Q (.ref p) H'
theorem ok_table {f fT fX fB fM : Addr} {fd fdT fdX fdB fdM : FuncData} (F : Fun K "_law_table" "_law_table" s_table f fd) (ml : mg "len" = none)
    (GT : FnOk P w K mg base CX0 1 fT fdT ["_law_box_here", "_law_many"] spTake) (kT : PySem.W.keepIn K (.ref fT) = true) (bT : Binds K fdT ["_law_box_here", "_law_many"] []) (gT : mg "_law_take" = some (.ref fT))
    (GX : FnOk P w K mg base CX0 1 fX fdX ["_law_letters", "_law_size"] spTexts) (kX : PySem.W.keepIn K (.ref fX) = true) (bX : Binds K fdX ["_law_letters", "_law_size"] []) (gX : mg "_law_texts" = some (.ref fX))
    (GB : FnOk P w K mg base CX0 2 fB fdB ["_law_shape_here", "_law_order", "_law_is_last"] (spBy K)) (kB : PySem.W.keepIn K (.ref fB) = true) (bB : Binds K fdB ["_law_shape_here", "_law_order", "_law_is_last"] []) (gB : mg "_law_by_order" = some (.ref fB))
    (GM : FnOk P w K mg base CX0 2 fM fdM ["_law_box_here", "_law_items"] (spMixed K)) (kM : PySem.W.keepIn K (.ref fM) = true) (bM : Binds K fdM ["_law_box_here", "_law_items"] []) (gM : mg "_law_mixed" = some (.ref fM)) :
    FnOk P w K mg base CX0 3 f fd ["_law_box_here", "_law_shape_here"] spTable := by
  refine F.ok scTable (fun vs H Q E h => ?_) (fun cdv A outer s₀ H vs Q E hr h => ?_)
  · obtain ⟨b, a, s, w, k, rfl, _⟩ := h
    rfl
  · obtain ⟨b, a, s, w, k, rfl, hb, ha, ok, q⟩ := h
    obtain ⟨ok1, ok2, ok3, ok4, ok5, ok6⟩ := id ok
    have hr1 : Room 1 _ := hr.mono (by decide)
    refine ⟨_, pss_cons (ps_set (i := 2) scTable.nd rfl (.inl rfl) (pe_call GT hr1 (by rfl) gT kT bT .nil pass0 (pa_cons (pv 0) (pa_cons pe_int pa_nil))))
      (pss_cons (ps_if (pt_cmpR op_eq (pv 2) pe_int (nomark _)) (pss_one (ps_ret (pe_lc (own := [("_law_window", 4)]) (g := gName 4) (tt := tYes) rfl scTable.nd
          (pi_list (pe_call GX hr1 (by rfl) gX kX bX .nil pass0 (pa_cons (pe_ix ix_tup (pv 1) pe_int (fun _ _ => rfl)) (pa_cons (pe_op op_sub (pe_op op_add (pe_ix ix_tup (pv 1) pe_int (fun _ _ => rfl)) (pe_ix ix_tup (pv 1) pe_int (fun _ _ => rfl))) pe_int) pa_nil))))
          (blkOk_by (own := [("_law_window", 4)]) (N := nTable) (sc := defScope s_table) (by decide +kernel))
          (fun _ _ _ _ _ => pg_name (i := 4) scTable.nd rfl (.inl rfl)) (fun _ _ _ _ _ => pts_nil)
          (fun _ _ _ _ _ => pe_call GT hr1 (by rfl) gT kT bT .nil pass0 (pa_cons (pv 0) (pa_cons (pe_ix (ixT K) (pv 1) pe_int (fun _ _ => rfl)) pa_nil)))))) pss_nil)
      (pss_cons (ps_set (i := 3) scTable.nd rfl (.inl rfl) (pe_call GB (hr.mono (by decide)) (by rfl) gB kB bB .nil pass0 (pa_cons (pv 1) (pa_cons (pe_call GM (hr.mono (by decide)) (by rfl) gM kM bM .nil pass0 (pa_cons (pv 0) (pa_cons
          (pe_call GX hr1 (by rfl) gX kX bX .nil pass0 (pa_cons (pe_ix ix_tup (pv 1) pe_int (fun _ _ => rfl)) (pa_cons (pe_ix ix_tup (pv 1) pe_int (fun _ _ => rfl)) pa_nil))) pa_nil))) (pa_cons (pe_cmpR op_eq (pv 2) pe_int (nomark _)) pa_nil)))))
      (pss_cons (ps_if (pt_cmpR op_eq (pv 2) pe_int (nomark _)) (pss_one (ps_asg (pe_call GT hr1 (by rfl) gT kT bT .nil pass0 (pa_cons (pv 0) (pa_cons (pe_ix ix_tup (pv 1) pe_int (fun _ _ => rfl)) pa_nil)))
          (pg_sub (pv 3) (pe_call GT hr1 (by rfl) gT kT bT .nil pass0 (pa_cons (pv 0) (pa_cons (pe_callB call_len_seq (by rfl) ml PySem.boot_len (pa_cons (pv 3) pa_nil)) pa_nil))) set_list))) pss_nil)
      (pss_one (ps_ret (pv 3)))))), ?_⟩
    have ab : a ≠ b := by
      obtain ⟨i0, j0, k0, e0, _⟩ := hb
      exact ne_of ha e0 (by intro z; cases z)
    refine ⟨_, rfl, b, 5, rfl, hb, by decide, by decide, fun H1 form r0 r1 b1 hb1 => ?_⟩
    have ha1 := b1 _ _ ha ab
    have hT1 : SqT K H1 a [.int s, .int w, .int k] := SqT.of ha1
    refine ⟨_, rfl, rfl, _, rfl, ite2 (fun e => ?_) (fun e => ?_)⟩
    · -- any table
      refine ⟨_, rfl, a, _, _, _, rfl, rfl, hT1, atI_nat (j := 0) rfl, _, rfl, a, _, _, _, rfl, rfl, hT1, atI_nat (j := 1) rfl, _, rfl, a, _, _, _, rfl, rfl, hT1, atI_nat (j := 2) rfl, _, _, rfl, rfl, _, _, rfl, rfl, ?_⟩
      refine ⟨s, w + k - 1, ?_, ok1, by omega, by omega, fun H2 p2 s2 np hp => ?_⟩
      · show [V.int s, V.int ((w : Int) + k - 1)] = _
        rw [wk_int ok2]
      refine ⟨p2, rfl, ⟨_, SqL.of hp⟩, fun D nD => ?_⟩
      have hb2 := hb1.same s2
      have Db := box_ne hb2 nD
      have pb := box_ne hb1 np
      refine lc_accB (b := b) (walk_list (K := K) (a := p2) (xs := (allT s (w + k - 1)).map tv)) nD Db (fun l => ∃ tb : List Nat, l = tb.map iv ∧ ∀ x ∈ tb, x < w) (fun H => Box H b) ⟨[], rfl, fun x hx => by cases hx⟩ (fun l _ hl => ?_)
        (hb2.but Db) (fun H o h => h.but Db) (fun H3 b3 => b3.seq pb (SqL.of hp)) ?_ ?_
      · rw [List.length_map, allT_len] at hl
        exact big_size (by omega)
      · rintro i x H3 H3' hi b3 hb3 ⟨rfl, hx⟩ kk
        refine ⟨rfl, yes_i ?_⟩
        have ha3 := b3 _ _ (s2 _ _ ha1) ab
        refine ⟨_, rfl, _, rfl, a, _, _, _, rfl, rfl, SqT.of ha3, atI_nat (j := 1) rfl, b, w, rfl, hb3, by omega, by omega, fun H4 r r0 r1 b4 hb4 => kk _ _ b4 hb4 ?_⟩
        rintro l ⟨tb, rfl, htb⟩ _
        refine ⟨tb ++ [r.toNat], ?_, fun x hx => ?_⟩
        · rw [List.map_append]
          show _ = tb.map iv ++ [V.int ((r.toNat : Nat) : Int)]
          rw [Int.toNat_of_nonneg r0]
        · rcases List.mem_append.mp hx with z | z
          · exact htb x z
          · have ex := List.mem_singleton.mp z
            rw [ex]
            omega
      · rintro H3 l b3 hb3 ⟨tb, rfl, htb⟩ hl hD
        rw [List.length_map, List.length_map, allT_len] at hl
        exact q H3 D tb ((b1.same s2).trans b3) hb3 (free_of (b1.same s2) Db nD) hD ⟨hl, htb⟩
    · -- by an order
      refine ⟨_, rfl, _, rfl, _, rfl, a, _, _, _, rfl, rfl, hT1, atI_nat (j := 0) rfl, _, rfl, a, _, _, _, rfl, rfl, hT1, atI_nat (j := 2) rfl, s, k, rfl, ok1, by omega, by have := pow_k ok1 ok2 ok6; omega, fun H2 p2 s2 np hp => ?_⟩
      have hb2 := hb1.same s2
      have pb := box_ne hb1 np
      refine ⟨b, p2, (allT s k).map tv, rfl, hb2, SqL.of hp, pb, ?_, fun H3 p3 ys b3 hb3 np3 hp3 pm => ?_⟩
      · rw [List.length_map, allT_len]
        have := pow_k ok1 ok2 ok6
        omega
      obtain ⟨ord, rfl, po⟩ := perm_tv pm
      have ha3 := b3 _ _ (s2 _ _ ha1) ab
      have hol : ord.length ≤ 1000 := by
        rw [po.length_eq, allT_len]
        have := pow_k ok1 ok2 ok6
        omega
      have hA : AllP s k ord := fun p h1 h2 => po.mem_iff.mpr ((allT_mem s k p).mpr ⟨h1, h2⟩)
      refine ⟨_, rfl, rfl, a, p3, _, s, w, k, ord, rfl, ha3, ok, SqL.of hp3, hol, hA, fun H4 p4 s4 np4 hp4 => ?_⟩
      have b4 := ((b1.same s2).trans b3).same s4
      have hb4 := hb3.same s4
      have p4b := box_ne hb3 np4
      have np0 := free_of ((b1.same s2).trans b3) p4b np4
      generalize decide (V.int form = V.int 1) = last at hp4
      have ht : Tab s w k (byO s w k ord last) := byO_tab ok2 hA
      generalize byO s w k ord last = tb at hp4 ht
      refine ⟨_, rfl, rfl, _, rfl, ite2 (fun e => ?_) (fun e => ?_)⟩
      · -- one entry otherwise
        have ha4 := s4 _ _ ha3
        refine ⟨_, rfl, _, rfl, a, _, _, _, rfl, rfl, SqT.of ha4, atI_nat (j := 1) rfl, b, w, rfl, hb4, by omega, by omega, fun H5 r r0 r1 b5 hb5 => ?_⟩
        have hp5 := b5 _ _ hp4 p4b
        have tl : (tb.map iv).length = tb.length := List.length_map _
        have tpos : 0 < tb.length := by
          rw [ht.1]
          exact Nat.pow_pos (by omega)
        have tle : tb.length ≤ 256 := by rw [ht.1]; exact ok6
        refine ⟨_, rfl, _, rfl, _, rfl, p4, _, rfl, .inl (SqL.of hp5), b, _, rfl, hb5, by rw [tl]; omega, by rw [tl]; omega, fun H6 j j0 j1 b6 hb6 => ?_⟩
        rw [tl] at j1
        have hp6 := b6 _ _ hp5 p4b
        refine ⟨p4, tb.map iv, j, j.toNat, rfl, rfl, hp6, ?_, ?_⟩
        · rw [tl]
          exact ixN_of j0 (by omega)
        · refine ⟨_, rfl, q _ p4 (tb.set j.toNat r.toNat) ?_ (hb6.but p4b) np0 ?_ ⟨by rw [List.length_set]; exact ht.1, fun x hx => ?_⟩⟩
          · exact but_put np0 ((b4.trans b5).trans b6)
          · rw [upd_same, List.map_set]
            show _ = some (HO.lst ((tb.map iv).set j.toNat (V.int ((r.toNat : Nat) : Int))))
            rw [Int.toNat_of_nonneg r0]
          · rcases List.mem_or_eq_of_mem_set hx with z | z
            · exact ht.2 x z
            · omega
      · exact ⟨_, rfl, q H4 p4 tb b4 hb4 np0 hp4 ht⟩
end
end WP
namespace WP
open PySem L2
abbrev s_is_between : Stmt := top 10
abbrev s_is_integer : Stmt := top 9
abbrev s_is_sequence : Stmt := top 11
abbrev s_count_of : Stmt := top 14
abbrev s_number_of : Stmt := top 15
abbrev s_check_letters : Stmt := top 16
abbrev s_check_sizes : Stmt := top 22
abbrev s_is_table : Stmt := top 23
section
variable {K : PySem.W.Frag} {mg : Str → Option Value} {base : Heap} {w : World} {P : Program}
/-- what isinstance says of ints, texts, lists -/
theorem is_int {H : Hp} (i : Int) : TyX K H (.int i) (.type "int") := .base (.int i)
/-! ### is_between, of an int within the bounds -/
def spBetween : Sp := fun vs H Q _ => ∃ i lo hi : Int, vs = [.int i, .int lo, .int hi] ∧ lo ≤ i ∧ i ≤ hi ∧ Q (.bl true) H
theorem scInteger : FnScope ["value"] ["value"] (defScope s_is_integer) := ⟨rfl, rfl, rfl, by decide +kernel, rfl, by decide +kernel, by decide +kernel⟩
/-- is_integer, of an int -/
def spInteger : Sp := fun vs H Q _ => ∃ i : Int, vs = [.int i] ∧ Q (.bl true) H
theorem ok_integer {f : Addr} {fd : FuncData} (F : Fun K "is_integer" "is_integer" s_is_integer f fd) (mis : mg "isinstance" = none) (mi : mg "int" = none) (mb : mg "bool" = none) : FnOk P w K mg base CX0 1 f fd ["value"] spInteger := by
  refine F.ok scInteger (fun vs H Q E h => ?_) (fun cdv A outer s H vs Q E hr h => ?_)
  · obtain ⟨i, rfl, _⟩ := h
    rfl
  · obtain ⟨i, rfl, q⟩ := h
    refine ⟨_, pss_one (ps_ret (pe_and (pe_callB call_isi (by rfl) mis (by decide +kernel) (pa_cons (pv 0) (pa_cons (pe_bltn (v := .ty "int") (by rfl) mi (by decide +kernel) rfl) pa_nil)))
      (pe_one (pe_not (pe_callB call_isi (by rfl) mis (by decide +kernel) (pa_cons (pv 0) (pa_cons (pe_bltn (v := .ty "bool") (by rfl) mb (by decide +kernel) rfl) pa_nil))))))), ?_⟩
    refine ⟨_, rfl, .int i, .ty "int", .type "int", .type "int", true, rfl, .ty _, is_int i, kit_ty (by decide +kernel), true, rfl, iteT ?_⟩
    exact ⟨_, rfl, .int i, .ty "bool", .type "int", .type "bool", false, rfl, .ty _, is_int i, kit_ty (by decide +kernel), false, rfl, q⟩
theorem scBetween : FnScope ["value", "low", "high"] ["value", "low", "high"] (defScope s_is_between) := ⟨rfl, rfl, rfl, by decide +kernel, rfl, by decide +kernel, by decide +kernel⟩
theorem ok_between {f fI : Addr} {fd fdI : FuncData} (F : Fun K "is_between" "is_between" s_is_between f fd)
    (GI : FnOk P w K mg base CX0 1 fI fdI ["value"] spInteger) (kI : PySem.W.keepIn K (.ref fI) = true) (bI : Binds K fdI ["value"] []) (gI : mg "is_integer" = some (.ref fI)) : FnOk P w K mg base CX0 2 f fd ["value", "low", "high"] spBetween := by
  refine F.ok scBetween (fun vs H Q E h => ?_) (fun cdv A outer s H vs Q E hr h => ?_)
  · obtain ⟨i, lo, hi, rfl, _⟩ := h
    rfl
  · obtain ⟨i, lo, hi, rfl, h1, h2, q⟩ := h
    refine ⟨_, pss_one (ps_ret (pe_and (pe_call GI (hr.mono (by decide)) (by rfl) gI kI bI .nil pass0 (pa_cons (pv 0) pa_nil)) (pe_one (pe_chain op_le op_le (pv 1) (pv 0) (pv 2))))), ?_⟩
    refine ⟨_, rfl, i, rfl, true, rfl, iteT ?_⟩
    refine ⟨_, rfl, _, rfl, _, _, rfl, rfl, true, by show V.bl (decide (lo ≤ i)) = _; rw [decide_eq_true h1], iteT ?_⟩
    refine ⟨_, rfl, _, _, rfl, rfl, ?_⟩
    show Q (.bl (decide (i ≤ hi))) H
    rw [decide_eq_true h2]
    exact q
/-! ### is_sequence, of a list -/
def spSeq (K : PySem.W.Frag) : Sp := fun vs H Q _ => ∃ (p : Addr) (xs : List V), vs = [.ref p] ∧ H p = some (.lst xs) ∧ ∀ H', Same H H' → Q (.bl true) H'
theorem scSeq : FnScope ["value"] ["value"] (defScope s_is_sequence) := ⟨rfl, rfl, rfl, by decide +kernel, rfl, by decide +kernel, by decide +kernel⟩
theorem ok_seq {f : Addr} {fd : FuncData} (F : Fun K "is_sequence" "is_sequence" s_is_sequence f fd) (mis : mg "isinstance" = none) (ml : mg "list" = none) (mt : mg "tuple" = none) : FnOk P w K mg base CX0 1 f fd ["value"] (spSeq K) := by
  refine F.ok scSeq (fun vs H Q E h => ?_) (fun cdv A outer s H vs Q E hr h => ?_)
  · obtain ⟨p, xs, rfl, _⟩ := h
    rfl
  · obtain ⟨p, xs, rfl, hp, q⟩ := h
    refine ⟨_, pss_one (ps_ret (pe_callB call_isiT (by rfl) mis (by decide +kernel) (pa_cons (pv 0) (pa_cons (pe_tup (pa_cons (pe_bltn (v := .ty "list") (by rfl) ml (by decide +kernel) rfl) (pa_cons (pe_bltn (v := .ty "tuple") (by rfl) mt (by decide +kernel) rfl) pa_nil))) pa_nil)))), ?_⟩
    refine ⟨_, rfl, by show 2 ≤ sizeLine; decide, fun t nt => ?_⟩
    exact ⟨.ref p, t, [.ty "list", .ty "tuple"], .type "list", [.type "list", .type "tuple"], true, rfl, upd_same, .cons (.ty _) (.cons (.ty _) .nil), .base (.lst (same_upd nt _ _ hp)), kitAny_cons (b := true) (kit_ty (by decide +kernel)) (fun z => nomatch z) (fun _ => rfl), q _ (same_upd nt)⟩
/-! ### count_of -/
theorem scCount : FnScope ["letters", "length", "count", "_"] ["letters", "length"] (defScope s_count_of) := ⟨rfl, rfl, rfl, by decide +kernel, rfl, by decide +kernel, by decide +kernel⟩
theorem ok_count {f : Addr} {fd : FuncData} (F : Fun K "count_of" "count_of" s_count_of f fd) (mr : mg "range" = none) : FnOk P w K mg base CX0 1 f fd ["letters", "length"] spPower := by
  refine F.ok scCount (fun vs H Q E h => ?_) (fun cdv A outer s H vs Q E hr h => ?_)
  · obtain ⟨b, n, rfl, _⟩ := h
    rfl
  · obtain ⟨b, n, rfl, hb, hn, q⟩ := h
    refine ⟨_, pss_cons (ps_set (i := 2) scCount.nd rfl (.inl rfl) pe_int)
      (pss_cons (ps_for PassesOwn.never rfl (pi_range1 (by rfl) mr (pa_cons (pv 1) pa_nil)) (pg_name (i := 3) scCount.nd rfl (.inl rfl))
        (pss_one (ps_set (i := 2) scCount.nd rfl (.inl rfl) (pe_op op_mul (pv 2) (pv 0)))))
      (pss_one (ps_ret (pv 2)))), ?_⟩
    refine ⟨_, rfl, n, rfl, by omega, by omega, for_range (lo := 0) (n := (n : Int).toNat) (fun i σ H' => ∃ y, σ = [some (.int b), some (.int n), some (.int ((b ^ i : Nat) : Int)), y] ∧ H' = H) ⟨none, rfl, rfl⟩ ?_ ?_⟩
    · rintro i σ H' hi ⟨y, rfl, rfl⟩
      refine ⟨_, rfl, _, rfl, _, _, rfl, rfl, .inr ⟨by omega, by omega⟩, some (.int (0 + i)), ?_, rfl⟩
      rw [Nat.pow_succ, Int.natCast_mul]
      rfl
    · rintro σ H' ⟨y, rfl, rfl⟩
      refine ⟨_, rfl, ?_⟩
      rw [Int.toNat_natCast]
      exact q
/-! ### number_of -/
def spNumber : Sp := fun vs H Q _ => ∃ (s : Nat) (ds : List Nat), vs = [.int s, tv ds] ∧ s ≤ 4 ∧ Dig 4 ds ∧ ds.length ≤ 100000 ∧ Q (.int (num s ds : Nat)) H
theorem scNumber : FnScope ["letters", "text", "number", "letter"] ["letters", "text"] (defScope s_number_of) := ⟨rfl, rfl, rfl, by decide +kernel, rfl, by decide +kernel, by decide +kernel⟩
theorem find_abc : ∀ d : Nat, d < 4 → Txt.find ("abcd" : Str) ⟨#[97 + d]⟩ = (d : Int) := by
  intro d hd
  have : d = 0 ∨ d = 1 ∨ d = 2 ∨ d = 3 := by omega
  rcases this with rfl | rfl | rfl | rfl <;> decide +kernel
theorem cps_at {ds : List Nat} {i : Nat} {c : Nat} (h : (tx ds).cps[i]? = some c) : ∃ d, ds[i]? = some d ∧ c = 97 + d := by
  have e : (tx ds).cps.toList = cod ds := rfl
  rw [← Array.getElem?_toList, e] at h
  unfold cod at h
  rw [List.getElem?_map] at h
  cases q : ds[i]? with
  | none =>
    rw [q] at h
    cases h
  | some d =>
    rw [q] at h
    exact ⟨d, rfl, (Option.some.inj h).symm⟩
theorem cps_size (ds : List Nat) : (tx ds).cps.size = ds.length := by
  show (cod ds).toArray.size = ds.length
  rw [List.size_toArray, cod_len]
theorem ok_number {f : Addr} {fd : FuncData} (F : Fun K "number_of" "number_of" s_number_of f fd) (gA : ∃ u, mg "ALPHABET" = some u ∧ RelV (.str "abcd") u) : FnOk P w K mg base CX0 1 f fd ["letters", "text"] spNumber := by
  refine F.ok scNumber (fun vs H Q E h => ?_) (fun cdv A outer s₀ H vs Q E hr h => ?_)
  · obtain ⟨s, ds, rfl, _⟩ := h
    rfl
  · obtain ⟨s, ds, rfl, hs, hd, hl, q⟩ := h
    refine ⟨_, pss_cons (ps_set (i := 2) scNumber.nd rfl (.inl rfl) pe_int)
      (pss_cons (ps_for PassesOwn.never rfl (pi_str (pv 1)) (pg_name (i := 3) scNumber.nd rfl (.inl rfl))
        (pss_one (ps_set (i := 2) scNumber.nd rfl (.inl rfl) (pe_op op_add (pe_op op_mul (pv 2) (pv 0)) (pe_m1 PySem.F.slot_str_find PySem.F.type_str_find mt_find (C8.pe_gc (by rfl) gA) (pv 3))))))
      (pss_one (ps_ret (pv 2)))), ?_⟩
    refine ⟨_, rfl, tx ds, rfl, for_it walk_str (fun i σ H' => ∃ y, σ = [some (.int s), some (tv ds), some (.int ((num s (ds.take i) : Nat) : Int)), y] ∧ H' = H) ⟨none, rfl, rfl⟩ (fun _ _ _ _ _ => trivial) ?_ ?_⟩
    · rintro i x σ H1 H1' hi ⟨y, rfl, rfl⟩ ⟨rfl, c, hc, rfl⟩
      obtain ⟨d, hdi, rfl⟩ := cps_at hc
      have hd4 : d < 4 := hd d (List.mem_of_getElem? hdi)
      refine ⟨_, rfl, _, rfl, _, _, rfl, rfl, .inr ⟨by omega, by omega⟩, ⟨_, rfl⟩, _, rfl, _, _, rfl, rfl, _, _, rfl, rfl, some (.str ⟨#[97 + d]⟩), ?_, rfl⟩
      rw [find_abc d hd4, List.take_add_one, hdi]
      show _ = [_, _, some (V.int ((num s (ds.take i ++ [d]) : Nat) : Int)), _]
      rw [num_snoc, Int.natCast_add, Int.natCast_mul]
      rfl
    · rintro σ H1 ⟨y, rfl, rfl⟩
      refine ⟨_, rfl, ?_⟩
      rw [cps_size, List.take_length]
      exact q
/-! ### check_letters, of a good text -/
def spCheck : Sp := fun vs H Q _ => ∃ (s : Nat) (ds : List Nat), vs = [.int s, tv ds] ∧ (s = 2 ∨ s = 3 ∨ s = 4) ∧ Dig s ds ∧ ds.length ≤ 100000 ∧ ∀ H', Same H H' → Q .non H'
theorem scCheck : FnScope ["letters", "text", "at", "letter"] ["letters", "text"] (defScope s_check_letters) := ⟨rfl, rfl, rfl, by decide +kernel, rfl, by decide +kernel, by decide +kernel⟩
theorem tx_ascii {s : Nat} {ds : List Nat} (hs : s ≤ 4) (h : Dig s ds) : (tx ds).cps.all (· < 128) = true := by
  rw [← Array.all_toList]
  show (cod ds).all _ = true
  rw [List.all_eq_true]
  intro c hc
  obtain ⟨d, hd, rfl⟩ := List.mem_map.mp hc
  have := h d hd
  exact decide_eq_true (show 97 + d < 128 by omega)
theorem in_abc {s d : Nat} (h : d < s) : decide ((97 + d) ∈ (abc s).cps.toList) = true := by
  refine decide_eq_true ?_
  show 97 + d ∈ cod (List.range s)
  exact List.mem_map_of_mem (List.mem_range.mpr h)
theorem ok_check {f : Addr} {fd : FuncData} (F : Fun K "check_letters" "check_letters" s_check_letters f fd) (mis : mg "isinstance" = none) (mst : mg "str" = none) (me : mg "enumerate" = none) (gA : ∃ u, mg "ALPHABET" = some u ∧ RelV (.str "abcd") u) :
    FnOk P w K mg base CX0 1 f fd ["letters", "text"] spCheck := by
  refine F.ok scCheck (fun vs H Q E h => ?_) (fun cdv A outer s₀ H vs Q E hr h => ?_)
  · obtain ⟨s, ds, rfl, _⟩ := h
    rfl
  · obtain ⟨s, ds, rfl, hs, hd, hl, q⟩ := h
    refine ⟨_, pss_cons (ps_if (pt_not (pt_val (pe_callB call_isi (by rfl) mis (by decide +kernel) (pa_cons (pv 1) (pa_cons (pe_bltn (v := .ty "str") (by rfl) mst (by decide +kernel) rfl) pa_nil))))) (pss_one ps_never) pss_nil)
      (pss_one (ps_for PassesOwn.never rfl (pi_enumS (by rfl) me (pa_cons (pv 1) pa_nil)) (pg_tup rfl (pgs_cons (pg_name (i := 2) scCheck.nd rfl (.inl rfl)) (pgs_cons (pg_name (i := 3) scCheck.nd rfl (.inl rfl)) pgs_nil)))
        (pss_one (ps_if (pt_cmpR op_notIn_sign (pv 3) (pe_slice sl_str (C8.pe_gc (by rfl) gA) po_none (po_some (pv 0))) (by rfl)) (pss_one ps_never) pss_nil)))), ?_⟩
    refine ⟨_, rfl, tv ds, .ty "str", .type "str", .type "str", true, rfl, .ty _, .base (.str _), kit_ty (by decide +kernel), true, rfl, iteF ?_⟩
    refine ⟨_, rfl, tx ds, rfl, tx_ascii (by omega) hd, for_it walk_enumS (fun i σ H' => ∃ y z, σ = [some (.int s), some (tv ds), y, z] ∧ Same H H') ⟨none, none, rfl, Same.refl H⟩ (fun _ _ _ _ _ => trivial) ?_ ?_⟩
    · rintro i x σ H1 H1' hi ⟨y, z, rfl, s1⟩ ⟨T, c, rfl, nT, hc, rfl⟩
      obtain ⟨d, hdi, rfl⟩ := cps_at hc
      have hds := hd d (List.mem_of_getElem? hdi)
      refine ⟨T, [.int (i : Nat), .str ⟨#[97 + d]⟩], rfl, SqT.of upd_same, rfl, .int (i : Nat), [.str ⟨#[97 + d]⟩], rfl, .str ⟨#[97 + d]⟩, [], rfl, rfl, ?_⟩
      refine ⟨_, rfl, _, rfl, _, rfl, _, rfl, by decide, 97 + d, abc s, rfl, congrArg V.str (abc_cut s hs), _, rfl, ?_⟩
      rw [in_abc hds]
      exact iteF ⟨_, _, rfl, s1.trans (same_upd nT)⟩
    · rintro σ H1 ⟨y, z, rfl, s1⟩
      exact q H1 s1
end
end WP
namespace WP
open PySem L2
abbrev s_init : Stmt := inClass (top 21) 0
abbrev s_offset : Stmt := inClass (top 21) 3
abbrev s_rule_of : Stmt := top 37
abbrev s_spot : Stmt := top 38
/-- sizes that are let -/
def OkG (s w k : Nat) : Prop := (s = 2 ∨ s = 3 ∨ s = 4) ∧ 1 ≤ w ∧ w ≤ 5 ∧ 1 ≤ k ∧ k ≤ 4
theorem OkS.g {s w k : Nat} (h : OkS s w k) : OkG s w k := ⟨h.1, h.2.1, h.2.2.1, h.2.2.2.1, h.2.2.2.2.1⟩
/-- the attributes in the order in which they are stored -/
def rflds (s w k : Nat) (t : Addr) : List (Str × V) := putF "table" (.ref t) (putF "k" (iv k) (putF "w" (iv w) (putF "letters" (iv s) [])))
theorem n1 : ¬ (("letters" : Str) = "table") := by decide +kernel
theorem n2 : ¬ (("w" : Str) = "table") := by decide +kernel
theorem n3 : ¬ (("k" : Str) = "table") := by decide +kernel
theorem n4 : ¬ (("letters" : Str) = "k") := by decide +kernel
theorem n5 : ¬ (("w" : Str) = "k") := by decide +kernel
theorem n6 : ¬ (("letters" : Str) = "w") := by decide +kernel
theorem rf_table (s w k : Nat) (t : Addr) : (rflds s w k t).lookup ("table" : Str) = some (.ref t) := by
  unfold rflds
  rw [lookup_putF, if_pos rfl]
theorem rf_k (s w k : Nat) (t : Addr) : (rflds s w k t).lookup ("k" : Str) = some (iv k) := by
  unfold rflds
  rw [lookup_putF, if_neg n3, lookup_putF, if_pos rfl]
theorem rf_w (s w k : Nat) (t : Addr) : (rflds s w k t).lookup ("w" : Str) = some (iv w) := by
  unfold rflds
  rw [lookup_putF, if_neg n2, lookup_putF, if_neg n5, lookup_putF, if_pos rfl]
theorem rf_letters (s w k : Nat) (t : Addr) : (rflds s w k t).lookup ("letters" : Str) = some (iv s) := by
  unfold rflds
  rw [lookup_putF, if_neg n1, lookup_putF, if_neg n4, lookup_putF, if_neg n6, lookup_putF, if_pos rfl]
theorem rf_no {m : Str} (h1 : ¬ m = "table") (h2 : ¬ m = "k") (h3 : ¬ m = "w") (h4 : ¬ m = "letters") (s w k : Nat) (t : Addr) : (rflds s w k t).lookup m = none := by
  unfold rflds
  rw [lookup_putF, if_neg h1, lookup_putF, if_neg h2, lookup_putF, if_neg h3, lookup_putF, if_neg h4]
  rfl
/-- a rule stands at x -/
def RuleAt (C : Addr) (H : Hp) (x : Addr) (s w k : Nat) (tb : List Nat) : Prop := ∃ dx t, H x = some (.ins C dx (rflds s w k t)) ∧ H t = some (.tup (tb.map iv))
theorem RuleAt.same {C x : Addr} {H H' : Hp} {s w k : Nat} {tb : List Nat} (h : RuleAt C H x s w k tb) (e : Same H H') : RuleAt C H' x s w k tb := by
  obtain ⟨dx, t, h1, h2⟩ := h
  exact ⟨dx, t, e _ _ h1, e _ _ h2⟩
/-- what is asked of the class as the top has made it -/
structure RTxt (K : PySem.W.Frag) (mg : Str → Option Value) (C : Addr) : Prop where
  cl : Cls K C
  nL : NoAttr K C "letters"
  nW : NoAttr K C "w"
  nK : NoAttr K C "k"
  nT : NoAttr K C "table"
  mgC : mg "Rule" = some (.ref C)
section
variable {K : PySem.W.Frag} {mg : Str → Option Value} {base : Heap} {w : World} {P : Program}
/-! ### the checks of the sizes and of the table -/
def spSizes : Sp := fun vs H Q _ => ∃ s w k : Nat, vs = [iv s, iv w, iv k] ∧ OkG s w k ∧ Q .non H
theorem scSizes : FnScope ["letters", "w", "k"] ["letters", "w", "k"] (defScope s_check_sizes) := ⟨rfl, rfl, rfl, by decide +kernel, rfl, by decide +kernel, by decide +kernel⟩
theorem ok_sizes {f fB : Addr} {fd fdB : FuncData} (F : Fun K "_check_sizes" "_check_sizes" s_check_sizes f fd)
    (GB : FnOk P w K mg base CX0 2 fB fdB ["value", "low", "high"] spBetween) (kB : PySem.W.keepIn K (.ref fB) = true) (bB : Binds K fdB ["value", "low", "high"] []) (gB : mg "is_between" = some (.ref fB)) :
    FnOk P w K mg base CX0 3 f fd ["letters", "w", "k"] spSizes := by
  refine F.ok scSizes (fun vs H Q E h => ?_) (fun cdv A outer s₀ H vs Q E hr h => ?_)
  · obtain ⟨s, w, k, rfl, _⟩ := h
    rfl
  · obtain ⟨s, w, k, rfl, ⟨h1, h2, h3, h4, h5⟩, q⟩ := h
    refine ⟨_, pss_cons (ps_if (pt_not (pt_val (pe_call GB (hr.mono (by decide)) (by rfl) gB kB bB .nil pass0 (pa_cons (pv 0) (pa_cons pe_int (pa_cons pe_int pa_nil)))))) (pss_one ps_never) pss_nil)
      (pss_cons (ps_if (pt_not (pt_val (pe_call GB (hr.mono (by decide)) (by rfl) gB kB bB .nil pass0 (pa_cons (pv 1) (pa_cons pe_int (pa_cons pe_int pa_nil)))))) (pss_one ps_never) pss_nil)
      (pss_one (ps_if (pt_not (pt_val (pe_call GB (hr.mono (by decide)) (by rfl) gB kB bB .nil pass0 (pa_cons (pv 2) (pa_cons pe_int (pa_cons pe_int pa_nil)))))) (pss_one ps_never) pss_nil))), ?_⟩
    exact ⟨_, rfl, s, 2, 4, rfl, by omega, by omega, true, rfl, iteF ⟨_, rfl, w, 1, 5, rfl, by omega, by omega, true, rfl, iteF ⟨_, rfl, k, 1, 4, rfl, by omega, by omega, true, rfl, iteF q⟩⟩⟩
def spIsTable : Sp := fun vs H Q _ => ∃ (s w k : Nat) (p : Addr) (tb : List Nat), vs = [iv s, iv w, iv k, .ref p] ∧ OkG s w k ∧ H p = some (.lst (tb.map iv)) ∧ Tab s w k tb ∧ tb.length ≤ 100000 ∧ ∀ H', Same H H' → Q (.bl true) H'
abbrev nIsTable : List Str := ["letters", "w", "k", "table", "at"]
theorem scIsTable : FnScope nIsTable ["letters", "w", "k", "table"] (defScope s_is_table) := ⟨rfl, rfl, rfl, by decide +kernel, rfl, by decide +kernel, by decide +kernel⟩
theorem ok_is_table {f fB fS fN : Addr} {fd fdB fdS fdN : FuncData} (F : Fun K "_is_table" "_is_table" s_is_table f fd) (ml : mg "len" = none) (mal : mg "all" = none)
    (GB : FnOk P w K mg base CX0 2 fB fdB ["value", "low", "high"] spBetween) (kB : PySem.W.keepIn K (.ref fB) = true) (bB : Binds K fdB ["value", "low", "high"] []) (gB : mg "is_between" = some (.ref fB))
    (GS : FnOk P w K mg base CX0 1 fS fdS ["value"] (spSeq K)) (kS : PySem.W.keepIn K (.ref fS) = true) (bS : Binds K fdS ["value"] []) (gS : mg "is_sequence" = some (.ref fS))
    (GN : FnOk P w K mg base CX0 1 fN fdN ["letters", "length"] spPower) (kN : PySem.W.keepIn K (.ref fN) = true) (bN : Binds K fdN ["letters", "length"] []) (gN : mg "count_of" = some (.ref fN)) :
    FnOk P w K mg base CX0 3 f fd ["letters", "w", "k", "table"] spIsTable := by
  refine F.ok scIsTable (fun vs H Q E h => ?_) (fun cdv A outer s₀ H vs Q E hr h => ?_)
  · obtain ⟨s, w, k, p, tb, rfl, _⟩ := h
    rfl
  · obtain ⟨s, w, k, p, tb, rfl, ⟨h1, h2, h3, h4, h5⟩, hp, ht, htl, q⟩ := h
    refine ⟨_, pss_cons (ps_if (PW.pt (pw_or (pt_not (pt_val (pe_call GS (hr.mono (by decide)) (by rfl) gS kS bS .nil pass0 (pa_cons (pv 3) pa_nil)))) (pw_or1 (pt_cmpR op_ne (pe_callB call_len_seq (by rfl) ml PySem.boot_len (pa_cons (pv 3) pa_nil))
        (pe_call GN (hr.mono (by decide)) (by rfl) gN kN bN .nil pass0 (pa_cons (pv 0) (pa_cons (pe_op op_sub (pe_op op_add (pv 1) (pv 2)) pe_int) pa_nil))) (nomark _))))) (pss_one (ps_ret pe_bl)) pss_nil)
      (pss_one (ps_ret (pe_callB (cr_all rfl) (by rfl) mal (by decide +kernel) (pa_cons (pe_lc (own := [("at", 4)]) (g := gName 4) (tt := tYes) rfl scIsTable.nd (pi_list (pv 3))
        (blkOk_by (own := [("at", 4)]) (N := nIsTable) (sc := defScope s_is_table) (by decide +kernel)) (fun _ _ _ _ _ => pg_name (i := 4) scIsTable.nd rfl (.inl rfl)) (fun _ _ _ _ _ => pts_nil)
        (fun _ _ _ _ _ => pe_call GB (hr.mono (by decide)) (by rfl) gB kB bB .nil pass0 (pa_cons (pv 4) (pa_cons pe_int (pa_cons (pe_op op_sub (pv 1) pe_int) pa_nil))))) pa_nil)))), ?_⟩
    refine ⟨_, rfl, p, _, rfl, hp, fun H1 s1 => ⟨true, rfl, ?_⟩⟩
    refine iteF ?_
    have tl : (tb.map iv).length = tb.length := List.length_map _
    refine ⟨_, rfl, p, _, rfl, .inl (SqL.of (s1 _ _ hp)), _, rfl, _, rfl, _, rfl, _, _, rfl, rfl, _, _, rfl, rfl, s, w + k - 1, ?_, by omega, by omega, rfl, _, rfl, ?_⟩
    · show [V.int s, V.int ((w : Int) + k - 1)] = _
      rw [wk_int h2]
    · have e1 : V.int ((tb.map iv).length : Nat) = V.int ((s ^ (w + k - 1) : Nat) : Int) := by rw [tl, ht.1]
      rw [decide_eq_true e1]
      refine iteF ?_
      refine ⟨_, rfl, p, rfl, ⟨_, SqL.of (s1 _ _ hp)⟩, fun D nD => ?_⟩
      refine lc_acc (walk_list (K := K) (a := p) (xs := tb.map iv)) nD (fun i => (List.replicate i true).map V.bl) rfl (fun i hi => ?_) (fun H2 s2 => SqL.of ((s1.trans s2) _ _ hp)) ?_ ?_
      · rw [List.length_map, List.length_replicate]
        rw [tl] at hi
        exact big_size (by omega)
      · rintro i x H2 H2' hi s2 ⟨rfl, hx⟩ kk k0
        obtain ⟨t, htt, rfl⟩ := iv_at hx
        have h6 := ht.2 t (List.mem_of_getElem? htt)
        refine ⟨rfl, yes_i ?_⟩
        refine ⟨_, rfl, _, rfl, _, _, rfl, rfl, t, 0, (w : Int) - 1, rfl, by omega, by omega, kk _ _ (Same.refl _) ?_⟩
        rw [List.replicate_succ', List.map_append]
        rfl
      · intro H2 s2 hD
        refine ⟨D, _, rfl, SqL.of hD, ?_⟩
        have e2 : (List.replicate (tb.map iv).length true).all id = true := by
          rw [List.all_eq_true]
          intro b hb
          rw [List.eq_of_mem_replicate hb]
          rfl
        rw [e2]
        exact q _ (s1.trans s2)
end
end WP
namespace WP
open PySem L2
theorem putF_len (f : Str) (v : V) : ∀ fs : List (Str × V), (putF f v fs).length ≤ fs.length + 1
  | [] => Nat.le_refl _
  | (g, x) :: r => by
    show (if g = f then (g, v) :: r else (g, x) :: putF f v r).length ≤ _
    split
    · exact Nat.le_succ _
    · exact Nat.succ_le_succ (putF_len f v r)
section
variable {K : PySem.W.Frag} {mg : Str → Option Value} {base : Heap} {w : World} {P : Program}
/-! ### a rule is made -/
def spInit (C : Addr) : Sp := fun vs H Q _ => ∃ (x dx p : Addr) (s w k : Nat) (tb : List Nat), vs = [.ref x, iv s, iv w, iv k, .ref p] ∧ H x = some (.ins C dx []) ∧ OkG s w k ∧ H p = some (.lst (tb.map iv)) ∧ Tab s w k tb ∧ tb.length ≤ 100000 ∧
  ∀ H', RuleAt C H' x s w k tb → (∀ c o, H c = some o → c ≠ x → H' c = some o) → Q .non H'
theorem scInit : FnScope ["self", "letters", "w", "k", "table"] ["self", "letters", "w", "k", "table"] (defScope s_init) := ⟨rfl, rfl, rfl, by decide +kernel, rfl, by decide +kernel, by decide +kernel⟩
theorem ok_init {f fZ fT C : Addr} {fd fdZ fdT : FuncData} (F : Fun K "__init__" "Rule.__init__" s_init f fd) (T : RTxt K mg C) (mt : mg "tuple" = none)
    (GZ : FnOk P w K mg base CX0 3 fZ fdZ ["letters", "w", "k"] spSizes) (kZ : PySem.W.keepIn K (.ref fZ) = true) (bZ : Binds K fdZ ["letters", "w", "k"] []) (gZ : mg "_check_sizes" = some (.ref fZ))
    (GT : FnOk P w K mg base CX0 3 fT fdT ["letters", "w", "k", "table"] spIsTable) (kT : PySem.W.keepIn K (.ref fT) = true) (bT : Binds K fdT ["letters", "w", "k", "table"] []) (gT : mg "_is_table" = some (.ref fT)) :
    FnOk P w K mg base CX0 4 f fd ["self", "letters", "w", "k", "table"] (spInit C) := by
  refine F.ok scInit (fun vs H Q E h => ?_) (fun cdv A outer s₀ H vs Q E hr h => ?_)
  · obtain ⟨x, dx, p, s, w, k, tb, rfl, _⟩ := h
    rfl
  · obtain ⟨x, dx, p, s, w, k, tb, rfl, hx, og, hp, ht, htl, q⟩ := h
    refine ⟨_, pss_cons (ps_expr (pe_call GZ (hr.mono (by decide)) (by rfl) gZ kZ bZ .nil pass0 (pa_cons (pv 1) (pa_cons (pv 2) (pa_cons (pv 3) pa_nil)))))
      (pss_cons (ps_if (pt_not (pt_val (pe_call GT (hr.mono (by decide)) (by rfl) gT kT bT .nil pass0 (pa_cons (pv 1) (pa_cons (pv 2) (pa_cons (pv 3) (pa_cons (pv 4) pa_nil))))))) (pss_one ps_never) pss_nil)
      (pss_cons (ps_fld (pv 0) (pv 1) rfl) (pss_cons (ps_fld (pv 0) (pv 2) rfl) (pss_cons (ps_fld (pv 0) (pv 3) rfl)
      (pss_one (ps_fld (pv 0) (pe_callTy call_tuple_of (by rfl) mt (by decide +kernel) (pa_cons (pv 4) pa_nil)) rfl)))))), ?_⟩
    have px : p ≠ x := ne_of hp hx (by intro z; cases z)
    refine ⟨_, rfl, _, rfl, _, rfl, s, w, k, rfl, og, ?_⟩
    refine ⟨_, rfl, _, rfl, _, rfl, _, rfl, s, w, k, p, tb, rfl, og, hp, ht, htl, fun H1 s1 => ⟨true, rfl, iteF ?_⟩⟩
    have hx1 := s1 _ _ hx
    have hp1 := s1 _ _ hp
    have l1 := putF_len "letters" (iv s) []
    have l2 := putF_len "w" (iv w) (putF "letters" (iv s) [])
    have l3 := putF_len "k" (iv k) (putF "w" (iv w) (putF "letters" (iv s) []))
    refine ⟨_, rfl, _, rfl, x, C, dx, _, rfl, hx1, T.cl, T.nL, (by show 0 < 1000; decide), ?_⟩
    refine ⟨_, rfl, _, rfl, x, C, dx, _, rfl, upd_same, T.cl, T.nW, (by show (putF "letters" (iv s) []).length < 1000; have : ([] : List (Str × V)).length = 0 := rfl; omega), ?_⟩
    refine ⟨_, rfl, _, rfl, x, C, dx, _, rfl, upd_same, T.cl, T.nK, (by show (putF "w" (iv w) (putF "letters" (iv s) [])).length < 1000; have : ([] : List (Str × V)).length = 0 := rfl; omega), ?_⟩
    refine ⟨_, rfl, p, _, rfl, .inl ⟨SqL.of (by rw [upd_ne px, upd_ne px, upd_ne px]; exact hp1), fun t nt => ?_⟩⟩
    have xt : x ≠ t := ne_of_none (upd_same (a := x)) nt
    refine ⟨_, rfl, x, C, dx, _, rfl, (by rw [upd_ne xt]; exact upd_same), T.cl, T.nT, (by show (putF "k" (iv k) (putF "w" (iv w) (putF "letters" (iv s) []))).length < 1000; have : ([] : List (Str × V)).length = 0 := rfl; omega), ?_⟩
    refine q _ ⟨dx, t, upd_same, by rw [upd_ne xt.symm]; exact upd_same⟩ fun c o hc hcx => ?_
    have nt0 : H1 t = none := by
      rw [upd_ne xt.symm, upd_ne xt.symm, upd_ne xt.symm] at nt
      exact nt
    rw [upd_ne hcx, upd_ne (ne_of_none (s1 _ _ hc) nt0), upd_ne hcx, upd_ne hcx, upd_ne hcx]
    exact s1 _ _ hc
/-! ### the offset for a good window -/
def spOffset (C : Addr) : Sp := fun vs H Q _ => ∃ (x : Addr) (s w k : Nat) (tb ds : List Nat), vs = [.ref x, tv ds] ∧ RuleAt C H x s w k tb ∧ OkG s w k ∧ tb.length = s ^ (w + k - 1) ∧ ds.length = w + k - 1 ∧ Dig s ds ∧ ∀ H', Same H H' → Q (iv (tb.getD (num s ds) 0)) H'
theorem scOffset : FnScope ["self", "window"] ["self", "window"] (defScope s_offset) := ⟨rfl, rfl, rfl, by decide +kernel, rfl, by decide +kernel, by decide +kernel⟩
theorem getD_at {l : List Nat} {i : Nat} (h : i < l.length) : (l.map iv)[i]? = some (iv (l.getD i 0)) := by
  rw [List.getD_eq_getElem?_getD, List.getElem?_map, List.getElem?_eq_getElem h]
  rfl
theorem ok_offset {f fC fN C : Addr} {fd fdC fdN : FuncData} (F : Fun K "offset" "Rule.offset" s_offset f fd) (T : RTxt K mg C) (mis : mg "isinstance" = none) (mst : mg "str" = none) (ml : mg "len" = none)
    (GC : FnOk P w K mg base CX0 1 fC fdC ["letters", "text"] spCheck) (kC : PySem.W.keepIn K (.ref fC) = true) (bC : Binds K fdC ["letters", "text"] []) (gC : mg "check_letters" = some (.ref fC))
    (GN : FnOk P w K mg base CX0 1 fN fdN ["letters", "text"] spNumber) (kN : PySem.W.keepIn K (.ref fN) = true) (bN : Binds K fdN ["letters", "text"] []) (gN : mg "number_of" = some (.ref fN)) :
    FnOk P w K mg base CX0 2 f fd ["self", "window"] (spOffset C) := by
  refine F.ok scOffset (fun vs H Q E h => ?_) (fun cdv A outer s₀ H vs Q E hr h => ?_)
  · obtain ⟨x, s, w, k, tb, ds, rfl, _⟩ := h
    rfl
  · obtain ⟨x, s, w, k, tb, ds, rfl, ⟨dx, t, hx, ht⟩, ⟨h1, h2, h3, h4, h5⟩, htl, hl, hd, q⟩ := h
    refine ⟨_, pss_cons (ps_if (PW.pt (pw_or (pt_not (pt_val (pe_callB call_isi (by rfl) mis (by decide +kernel) (pa_cons (pv 1) (pa_cons (pe_bltn (v := .ty "str") (by rfl) mst (by decide +kernel) rfl) pa_nil)))))
        (pw_or1 (pt_cmpR op_ne (pe_callB call_len_str (by rfl) ml PySem.boot_len (pa_cons (pv 1) pa_nil)) (pe_op op_sub (pe_op op_add (pe_fld (pv 0) rfl) (pe_fld (pv 0) rfl)) pe_int) (nomark _))))) (pss_one ps_never) pss_nil)
      (pss_cons (ps_expr (pe_call GC (hr.mono (by decide)) (by rfl) gC kC bC .nil pass0 (pa_cons (pe_fld (pv 0) rfl) (pa_cons (pv 1) pa_nil))))
      (pss_one (ps_ret (pe_ix ix_tup (pe_fld (pv 0) rfl) (pe_call GN (hr.mono (by decide)) (by rfl) gN kN bN .nil pass0 (pa_cons (pe_fld (pv 0) rfl) (pa_cons (pv 1) pa_nil))) (fun _ _ => rfl))))), ?_⟩
    refine ⟨_, rfl, tv ds, .ty "str", .type "str", .type "str", true, rfl, .ty _, .base (.str _), kit_ty (by decide +kernel), true, rfl, iteF ?_⟩
    refine ⟨_, rfl, tx ds, rfl, by rw [tx_len, hl]; exact Nat.le_of_lt (big_size (by omega)), _, rfl, x, C, dx, _, _, rfl, hx, T.cl, T.nW, rf_w _ _ _ _, _, rfl, x, C, dx, _, _, rfl, hx, T.cl, T.nK, rf_k _ _ _ _, _, _, rfl, rfl, _, _, rfl, rfl, rfl, _, rfl, ?_⟩
    have e1 : V.int ((tx ds).length : Nat) = V.int ((w : Int) + k - 1) := by rw [tx_len, hl, wk_int h2]
    rw [show decide (V.int ((tx ds).length : Nat) = V.int ((w : Int) + k - 1)) = true from decide_eq_true e1]
    refine iteF ?_
    refine ⟨_, rfl, x, C, dx, _, _, rfl, hx, T.cl, T.nL, rf_letters _ _ _ _, _, rfl, s, ds, rfl, h1, hd, by omega, fun H1 s1 => ?_⟩
    have hx1 := s1 _ _ hx
    have ht1 := s1 _ _ ht
    have hn : num s ds < tb.length := by rw [htl]; exact num_lt _ ds hl hd
    refine ⟨_, rfl, x, C, dx, _, _, rfl, hx1, T.cl, T.nT, rf_table _ _ _ _, _, rfl, x, C, dx, _, _, rfl, hx1, T.cl, T.nL, rf_letters _ _ _ _, _, rfl, s, ds, rfl, by omega, fun d hdd => Nat.lt_of_lt_of_le (hd d hdd) (by omega), by omega, ?_⟩
    exact ⟨t, _, _, _, rfl, rfl, SqT.of ht1, atI_nat (j := num s ds) (getD_at hn), q _ s1⟩
end
end WP
namespace WP
open PySem L2
/-- a drawn rule: a tuple of three numbers and a table -/
def DrawnAt (H : Hp) (d p : Addr) (s w k : Nat) (tb : List Nat) : Prop := H d = some (.tup [iv s, iv w, iv k, .ref p]) ∧ H p = some (.lst (tb.map iv))
theorem DrawnAt.same {H H' : Hp} {d p : Addr} {s w k : Nat} {tb : List Nat} (h : DrawnAt H d p s w k tb) (e : Same H H') : DrawnAt H' d p s w k tb := ⟨e _ _ h.1, e _ _ h.2⟩
theorem Dig.front {s : Nat} {ds : List Nat} (h : Dig s ds) : Dig s ds.dropLast := fun d hd => h d (List.dropLast_subset ds hd)
theorem Dig.tail {s : Nat} {ds : List Nat} (h : Dig s ds) : Dig s ds.tail := fun d hd => h d (List.mem_of_mem_tail hd)
theorem pow_wk {s w k : Nat} (h : OkS s w k) : s ^ (w + k) ≤ 1024 := by
  obtain ⟨h1, h2, h3, h4, h5, h6⟩ := h
  have e : w + k = (w + k - 1) + 1 := by omega
  rw [e, Nat.pow_succ]
  have := Nat.mul_le_mul h6 (show s ≤ 4 by omega)
  omega
theorem find_at : ∀ d : Nat, d < 4 → Builtin.Str.occurrences ("abcd" : Str) ⟨#[97 + d]⟩ 0 ("abcd" : Str).length 1 = [d] := by
  intro d hd
  have : d = 0 ∨ d = 1 ∨ d = 2 ∨ d = 3 := by omega
  rcases this with rfl | rfl | rfl | rfl <;> decide +kernel
section
variable {K : PySem.W.Frag} {mg : Str → Option Value} {base : Heap} {w : World} {P : Program}
/-! ### a rule of what was drawn -/
def spRuleOf (C : Addr) : Sp := fun vs H Q _ => ∃ (d p : Addr) (s w k : Nat) (tb : List Nat), vs = [.ref d] ∧ DrawnAt H d p s w k tb ∧ OkS s w k ∧ Tab s w k tb ∧ ∀ H' x, Same H H' → RuleAt C H' x s w k tb → Q (.ref x) H'
theorem scRuleOf : FnScope ["_law_drawn"] ["_law_drawn"] (defScope s_rule_of) := ⟨rfl, rfl, rfl, by decide +kernel, rfl, by decide +kernel, by decide +kernel⟩
theorem ok_rule_of {f fI C : Addr} {fd fdI : FuncData} (F : Fun K "_law_rule_of" "_law_rule_of" s_rule_of f fd) (T : RTxt K mg C) (M : Mk K C fI)
    (GI : FnOk P w K mg base CX0 4 fI fdI ["self", "letters", "w", "k", "table"] (spInit C)) (bI : Binds K fdI ["self", "letters", "w", "k", "table"] []) :
    FnOk P w K mg base CX0 6 f fd ["_law_drawn"] (spRuleOf C) := by
  refine F.ok scRuleOf (fun vs H Q E h => ?_) (fun cdv A outer s₀ H vs Q E hr h => ?_)
  · obtain ⟨d, p, s, w, k, tb, rfl, _⟩ := h
    rfl
  · obtain ⟨d, p, s, w, k, tb, rfl, ⟨hd, hp⟩, ok, ht, q⟩ := h
    refine ⟨_, pss_one (ps_ret (pe_make M GI (hr.mono (by decide)) (by rfl) T.mgC bI .nil pass0 (pa_cons (pe_ix ix_tup (pv 0) pe_int (fun _ _ => rfl)) (pa_cons (pe_ix ix_tup (pv 0) pe_int (fun _ _ => rfl)) (pa_cons (pe_ix ix_tup (pv 0) pe_int (fun _ _ => rfl)) (pa_cons (pe_ix ix_tup (pv 0) pe_int (fun _ _ => rfl)) pa_nil)))))), ?_⟩
    have hT : SqT K H d [iv s, iv w, iv k, .ref p] := SqT.of hd
    refine ⟨_, rfl, d, _, _, _, rfl, rfl, hT, atI_nat (j := 0) rfl, _, rfl, d, _, _, _, rfl, rfl, hT, atI_nat (j := 1) rfl, _, rfl, d, _, _, _, rfl, rfl, hT, atI_nat (j := 2) rfl, _, rfl, d, _, _, _, rfl, rfl, hT, atI_nat (j := 3) rfl, ?_⟩
    intro x dx nx ndx nex
    have s1 : Same H (upd (upd H dx (.own x)) x (.ins C dx [])) := fun b o e => by
      rw [upd_ne (ne_of_none e nx), upd_ne (ne_of_none e ndx)]
      exact e
    refine ⟨x, dx, p, s, w, k, tb, rfl, upd_same, ok.g, s1 _ _ hp, ht, by rw [ht.1]; exact Nat.le_trans ok.2.2.2.2.2 (by decide), fun H2 hx2 k2 => ⟨rfl, q H2 x (fun c o e => k2 c o (s1 c o e) (ne_of_none e nx)) hx2⟩⟩
/-! ### the law's own offset -/
end
end WP
namespace WP
open PySem L2
section
variable {K : PySem.W.Frag} {mg : Str → Option Value} {base : Heap} {w : World} {P : Program}
def spSpot : Sp := fun vs H Q _ => ∃ (d p : Addr) (s w k : Nat) (tb ds : List Nat), vs = [.ref d, tv ds] ∧ DrawnAt H d p s w k tb ∧ OkS s w k ∧ tb.length = s ^ (w + k - 1) ∧ ds.length = w + k - 1 ∧ Dig s ds ∧ Q (iv (tb.getD (num s ds) 0)) H
theorem scSpot : FnScope ["_law_drawn", "_law_window", "_law_found", "_law_sign"] ["_law_drawn", "_law_window"] (defScope s_spot) := ⟨rfl, rfl, rfl, by decide +kernel, rfl, by decide +kernel, by decide +kernel⟩
theorem ok_spot {f : Addr} {fd : FuncData} (F : Fun K "_law_spot" "_law_spot" s_spot f fd) : FnOk P w K mg base CX0 1 f fd ["_law_drawn", "_law_window"] spSpot := by
  refine F.ok scSpot (fun vs H Q E h => ?_) (fun cdv A outer s₀ H vs Q E hr h => ?_)
  · obtain ⟨d, p, s, w, k, tb, ds, rfl, _⟩ := h
    rfl
  · obtain ⟨d, p, s, w, k, tb, ds, rfl, ⟨hd, hp⟩, ⟨h1, h2, h3, h4, h5, h6⟩, htl, hl, hg, q⟩ := h
    refine ⟨_, pss_cons (ps_set (i := 2) scSpot.nd rfl (.inl rfl) pe_int)
      (pss_cons (ps_for PassesOwn.never rfl (pi_str (pv 1)) (pg_name (i := 3) scSpot.nd rfl (.inl rfl))
        (pss_one (ps_set (i := 2) scSpot.nd rfl (.inl rfl) (pe_op op_add (pe_op op_mul (pv 2) (pe_ix ix_tup (pv 0) pe_int (fun _ _ => rfl))) (pe_m1 PySem.F.slot_str_index PySem.F.type_str_index mt_sindex pe_str (pv 3))))))
      (pss_one (ps_ret (pe_ix ix_list (pe_ix ix_tup (pv 0) pe_int (fun _ _ => rfl)) (pv 2) (fun _ _ => rfl))))), ?_⟩
    have hT : SqT K H d [iv s, iv w, iv k, .ref p] := SqT.of hd
    refine ⟨_, rfl, tx ds, rfl, for_it walk_str (fun i σ H' => ∃ y, σ = [some (.ref d), some (tv ds), some (iv (num s (ds.take i))), y] ∧ H' = H) ⟨none, rfl, rfl⟩ (fun _ _ _ _ _ => trivial) ?_ ?_⟩
    · rintro i x σ H1 H1' hi ⟨y, rfl, rfl⟩ ⟨rfl, c, hc, rfl⟩
      obtain ⟨e, hdi, rfl⟩ := cps_at hc
      have he : e < s := hg e (List.mem_of_getElem? hdi)
      refine ⟨_, rfl, _, rfl, d, _, _, _, rfl, rfl, hT, atI_nat (j := 0) rfl, _, _, rfl, rfl, .inr ⟨by omega, by omega⟩, ⟨_, rfl⟩, _, rfl, _, _, e, [], rfl, rfl, find_at e (by omega), _, _, rfl, rfl, some (.str ⟨#[97 + e]⟩), ?_, rfl⟩
      rw [List.take_add_one, hdi]
      show _ = [_, _, some (V.int ((num s (ds.take i ++ [e]) : Nat) : Int)), _]
      rw [num_snoc, Int.natCast_add, Int.natCast_mul]
      rfl
    · rintro σ H1 ⟨y, rfl, rfl⟩
      rw [cps_size, List.take_length]
      have hn : num s ds < tb.length := by rw [htl]; exact num_lt _ ds hl hg
      exact ⟨_, rfl, d, _, _, _, rfl, rfl, hT, atI_nat (j := 3) rfl, _, rfl, p, _, _, _, rfl, rfl, SqL.of hp, atI_nat (j := num s ds) (getD_at hn), q⟩
end
end WP
namespace WP
open PySem L2
theorem repr_bl {X : Cx} : CallR X (.builtin "repr") (fun xs H Q => ∃ b, xs = [.bl b] ∧ Q (.str (if b then "True" else "False")) H) := by
  intro pn s σ H xs us Q J r h
  obtain ⟨b, e, q⟩ := h
  subst e
  obtain ⟨u, eu, ru⟩ := vals1 r
  subst eu
  have ru : u = Value.bool b := ru
  subst ru
  exact PySem.P.repr_of_bool ⟨.str _, H, J.tok _, ⟨_, rfl⟩, q⟩
section
variable {K : PySem.W.Frag} {mg : Str → Option Value} {base : Heap} {w : World} {P : Program}
/-! ### a drawn rule -/
def Drawing (b : Addr) (H : Hp) (Q : VK) : Prop := ∀ H' d p (s w k : Nat) tb, But b H H' → Box H' b → H p = none → DrawnAt H' d p s w k tb → OkS s w k → Tab s w k tb → Q (.ref d) H'
def spRule : Sp := fun vs H Q _ => ∃ (b : Addr) (most : Nat), vs = [.ref b, .int most] ∧ Box H b ∧ 2 ≤ most ∧ Drawing b H Q
theorem scRule : FnScope ["_law_box_here", "_law_most", "_law_shape_here"] ["_law_box_here", "_law_most"] (defScope s_rule) := ⟨rfl, rfl, rfl, by decide +kernel, rfl, by decide +kernel, by decide +kernel⟩
theorem tup_ne {a b : Addr} {H : Hp} {xs : List V} (hb : Box H b) (h : H a = some (.tup xs)) : a ≠ b := by
  obtain ⟨i, j, k, e, _⟩ := hb
  exact ne_of h e (by intro z; cases z)
theorem ok_rule {f fS fT : Addr} {fd fdS fdT : FuncData} (F : Fun K "_law_rule" "_law_rule" s_rule f fd)
    (GS : FnOk P w K mg base CX0 3 fS fdS ["_law_box_here", "_law_most"] spShape) (kS : PySem.W.keepIn K (.ref fS) = true) (bS : Binds K fdS ["_law_box_here", "_law_most"] []) (gS : mg "_law_shape" = some (.ref fS))
    (GT : FnOk P w K mg base CX0 3 fT fdT ["_law_box_here", "_law_shape_here"] spTable) (kT : PySem.W.keepIn K (.ref fT) = true) (bT : Binds K fdT ["_law_box_here", "_law_shape_here"] []) (gT : mg "_law_table" = some (.ref fT)) :
    FnOk P w K mg base CX0 4 f fd ["_law_box_here", "_law_most"] spRule := by
  refine F.ok scRule (fun vs H Q E h => ?_) (fun cdv A outer s₀ H vs Q E hr h => ?_)
  · obtain ⟨b, most, rfl, _⟩ := h
    rfl
  · obtain ⟨b, most, rfl, hb, hm, q⟩ := h
    refine ⟨_, pss_cons (ps_set (i := 2) scRule.nd rfl (.inl rfl) (pe_call GS (hr.mono (by decide)) (by rfl) gS kS bS .nil pass0 (pa_cons (pv 0) (pa_cons (pv 1) pa_nil))))
      (pss_one (ps_ret (pe_op op_catT (pv 2) (pe_tup (pa_cons (pe_call GT (hr.mono (by decide)) (by rfl) gT kT bT .nil pass0 (pa_cons (pv 0) (pa_cons (pv 2) pa_nil))) pa_nil))))), ?_⟩
    refine ⟨_, rfl, _, rfl, b, most, rfl, hb, hm, fun H1 a s w k b1 hb1 ha ok _ => ?_⟩
    refine ⟨_, rfl, _, rfl, _, rfl, b, a, s, w, k, rfl, hb1, ha, ok, fun H2 p tb b2 hb2 np hp ht => ⟨by show 1 ≤ sizeLine; decide, fun t nt => ?_⟩⟩
    have ab := tup_ne hb1 ha
    have ha2 := b2 _ _ ha ab
    have pb := box_ne hb1 np
    refine ⟨a, t, _, _, rfl, rfl, SqT.of (same_upd nt _ _ ha2), SqT.of upd_same, by simp, by show 3 + 1 ≤ sizeLine; decide, (fun z => nomatch z), fun _ d nd => ?_⟩
    have s3 : Same H2 (upd (upd H2 t (.tup [.ref p])) d (.tup ([.int s, .int w, .int k] ++ [.ref p]))) := (same_upd nt).trans (same_upd nd)
    exact q _ d p s w k tb ((b1.trans b2).same s3) (hb2.same s3) (free_of b1 pb np) ⟨upd_same, s3 _ _ hp⟩ ok ht
end
end WP
namespace WP
open L2 PySem PySem.Spec PyProof.Rows
/-! ### set(list of numbers), sorted of a set of numbers, any size -/
section
variable {P : Program} {w : World} {A : Around} {E : Value → Shared → Prop} {s : Shared}
/-- what set() lays -/
abbrev bare (w : World) : Obj := { cls := .type "set", dict := none, data := .set #[] 0 (.fresh 0 0 (!w.params.followText "set-order")) }
set_option maxRecDepth 100000 in
set_option maxHeartbeats 3200000 in
theorem set_of_list {l : Addr} {its : Array Value} {ns : List Int} {Q : Value → Shared → Prop} (hA : A.handled = none) (hl : s.heap.IsList l its) (hi : IntsAre its.toList ns) (hb : ns.length + 1 < scanBound)
    (q : ∀ (h' : Heap) (tk c : Nat), SetR w h' s.heap.objs.size (fun j => decide (j ∈ ns)) c → c ≤ ns.length → (∀ b o, s.heap.get? b = some o → h'.get? b = some o) → Q (.ref s.heap.objs.size) { s with heap := h', toks := tk }) :
    wpAny (model P w) A (call (.type "set") [.ref l]) Q E s := by
  have sz : its.size = ns.length := (Array.length_toList).symm.trans (IntsAre.length hi)
  obtain ⟨c0, tl, hmro⟩ := F.called_set.mro
  have a1 := F.called_set.made
  have a2 := F.called_set.sub
  have a3 := F.called_set.notType
  have a4 := F.called_set.canCreate
  have a5 := F.typeCall_set_1 (.ref l)
  refine wpAny_call (codeAny_of_tree ?_)
  show wpAny _ _ (callAny (.type "set") _) _ _ _
  refine wpAny_pure ⟨Code.quiet_builtin _ (by decide +kernel), codeAny_builtin F.entry_type_call ?_⟩
  rw [Around.under_plain (weight_type_call_type "set" [.ref l] []) rfl]
  repeat (any_goals (first | assumption | wp_step))
  refine codeAny_mono (code_set_led1 (.ref l) (E := E) (Q₁ := fun v s1 => v = .ref s.heap.objs.size ∧ s1 = { s with heap := s.heap.push (bare w) }) ⟨rfl, rfl⟩) fun r s1 hr => ?_
  match r, hr with
  | .error _, hr => exact hr
  | .ok (.ret v), hr =>
    obtain ⟨rfl, rfl⟩ := hr
    have b0 : (s.heap.push (bare w)).get? s.heap.objs.size = some (bare w) := Heap.get?_push_size _ rfl
    have b1 : Shared.TypeIs { s with heap := s.heap.push (bare w) } (.ref s.heap.objs.size) "set" := ⟨_, b0, rfl⟩
    have b2 := F.called_set.init.lookup
    have b3 := F.called_set.init.bind (.ref s.heap.objs.size)
    repeat (any_goals (first | assumption | wp_step))
    refine codeAny_mono (codeAny_call_builtin (R := wants (fun r s2 => r = .none ∧ ∃ h' tk c, s2 = { s with heap := h', toks := tk } ∧ SetR w h' s.heap.objs.size (fun j => decide (j ∈ ns)) c ∧ c ≤ ns.length ∧ ∀ b o, s.heap.get? b = some o → h'.get? b = some o) E)
      F.called_set.init.plain F.entry_set_init (check_set_init_1 b1 ?_)) fun r2 s2 hr2 => ?_
    · obtain ⟨⟨oc, od, odat, osl⟩, hol, e1, nl, e2⟩ := hl
      simp only at e1 e2
      subst e1
      subst e2
      have hz : (s.heap.push (bare w)).get? l = some { cls := .type "list", dict := od, data := .seq its nl, slots := osl } := Heap.get?_push_of_some _ hol
      have f1 := F.sub_list_set
      have f2 := F.sub_list_frozenset
      have f3 : (Value.type "list" == Value.type "dict") = false := by decide
      have hl1 : (s.heap.push (bare w)).IsList l its := ⟨_, hz, rfl, nl, rfl⟩
      unfold Builtin.«set.__init__» noKeywords Builtin.Frozenset.updateFrom
      generalize hPI : pyIter = PI
      wp_walk
      subst hPI
      refine wpAny_pyIter_list hl1 (wpAny_bind (wpAny_runValue ?_))
      have lt : l < s.heap.objs.size := Heap.lt_size hol
      have n1 : l ≠ (s.heap.push (bare w)).objs.size := by
        rw [Heap.size_push]
        exact Nat.ne_of_lt (Nat.lt_succ_of_lt lt)
      have n2 : s.heap.objs.size ∉ [(s.heap.push (bare w)).objs.size, l] := by
        rw [Heap.size_push]
        intro z
        rcases List.mem_cons.mp z with z | z
        · exact absurd z (Nat.ne_of_lt (Nat.lt_succ_self _))
        · exact absurd (List.mem_singleton.mp z) (Nat.ne_of_gt lt)
      have hv : ∀ (i : Nat) (v : Value), its[i]? = some v → ∃ k t, ns[i]? = some k ∧ v = .int k t := by
        intro i v hv
        have hi2 : i < ns.length := sz ▸ (Array.getElem?_eq_some_iff.mp hv).1
        obtain ⟨t, e⟩ := PyProof.Rows.IntsAre.int_at hi i v ((Array.getElem?_toList ..).trans hv)
        refine ⟨ns[i], t, List.getElem?_eq_getElem hi2, e.trans ?_⟩
        rw [List.getD_eq_getElem?_getD, List.getElem?_eq_getElem hi2]
        rfl
      have hh3 : A.in1.in1.in1.handled = none := by simp [hA]
      refine set_update_ints ((Walks.list hh3 _ l n1 its).toS) s.heap.objs.size n2 ns sz hb hv (its.size - 0) 0 _ (by omega) (Nat.zero_le _)
        ⟨⟨_, Heap.get?_push_size _ rfl, rfl, rfl⟩, (hl1.push _)⟩ ⟨0, Nat.le_refl 0, setR_new_at (Heap.get?_push_of_some _ b0)⟩ fun s3 c hm hc R3 => ?_
      obtain ⟨h3, g3, d3, t3, o3⟩ := s3
      obtain rfl : g3 = s.gens := hm.gens
      obtain rfl : d3 = s.drawn := hm.drawn
      obtain rfl : o3 = s.os := hm.os
      show wpAny _ _ _ _ _ _
      refine wpAny_pure ?_
      show wpAny _ _ (ret Value.none) _ _ _
      refine wpAny_pure ⟨rfl, h3, t3, c, rfl, R3, sz ▸ hc, fun b o e => ?_⟩
      have lb : b < s.heap.objs.size := Heap.lt_size e
      refine hm.heap b o (fun z => ?_) (Heap.get?_push_of_some _ (Heap.get?_push_of_some _ e))
      rcases List.mem_cons.mp z with z | z
      · exact absurd z (Nat.ne_of_lt lb)
      · rw [List.mem_singleton, Heap.size_push] at z
        exact absurd z (Nat.ne_of_lt (Nat.lt_succ_of_lt lb))
    · match r2, hr2 with
      | .error _, hr2 => exact hr2
      | .ok (.ret r), hr2 =>
        obtain ⟨rfl, h', tk, c, rfl, R3, hc, hk⟩ := hr2
        repeat (any_goals (first | assumption | wp_step))
        exact q _ _ _ R3 hc hk
theorem sorted_of_set {a : Addr} {S : Int → Bool} {n : Nat} {Q : Value → Shared → Prop} (R : SetR w s.heap a S n) (hA : A.handled = none)
    (q : ∀ s' p (out : Array Value) (c : Nat) (ns : List Int), (∀ b o, s.heap.get? b = some o → s'.heap.get? b = some o) → s'.gens = s.gens → s'.os = s.os → s.heap.objs.size ≤ p → s'.heap.get? p = some (seqObj "list" out c) → IntsAre out.toList ns → ns.Pairwise (· < ·) →
      (∀ k, k ∈ ns ↔ S k = true) → ns.length ≤ sizeLine → Q (.ref p) s') : wpAny (model P w) A (call (.builtin "sorted") [.ref a]) Q E s := by
  obtain ⟨o, es, ep, t, ho, hex, hd, g, nd, hm, hb, hf, hn, hr, hl⟩ := R
  refine Calls.call_function_entry kind_sorted plain_sorted entry_sorted (args_sorted1 _) ?_
  unfold Builtin.«sorted»
  refine wpAny_bind (m := checkCount "sorted" 1 1 _) (wpAny_pure (wpAny_bind (collect_set (A := A.in1) hA ⟨o, ho, hex.1, hd⟩ hf hb hr hl fun s1 vs k1 hz g1 o1 pm => ?_)))
  have hI : IntsAre vs (vs.map Builtin.Re.reRawOf) := ints_of vs fun v hv => by
    obtain ⟨e, he, z⟩ := List.mem_map.mp (pm.mem_iff.mp hv)
    obtain ⟨k, tk, h1, _⟩ := g e he
    exact ⟨k, tk, z ▸ h1⟩
  have pk : (vs.map Builtin.Re.reRawOf).Perm (es.toList.map keyOf) := by
    have z := pm.map Builtin.Re.reRawOf
    rw [List.map_map] at z
    exact z
  have sl : vs.length ≤ sizeLine := by
    rw [pm.length_eq, List.length_map, Array.length_toList]
    exact fits_of_scanBound hb
  refine wpAny_bind (wpAny_newList ?_ sl)
  have hoL : (s1.heap.push (seqObj "list" vs.toArray 0)).get? s1.heap.objs.size = some (seqObj "list" vs.toArray 0) := Heap.get?_push_size _ rfl
  refine wpAny_bind (wpAny_holding (wpAny_call_entry slot_list_sort ⟨_, hoL, rfl⟩ entry_list_sort (list_sort_treeAny hoL hI sl fun out ns' b1 b2 b3 => ⟨_, rfl, ?_⟩) (args_list_sort _)))
  obtain ⟨c, hc⟩ := sortedHeap_at (vs := vs) (out := out) hoL
  have pn := b2.trans pk
  refine wpAny_pure ⟨_, rfl, q _ s1.heap.objs.size out c ns' (fun b u e => ?_) g1 o1 hz hc b1 (lt_of_le_nodup ns' b3 (pn.nodup_iff.mpr nd)) (fun k => pn.mem_iff.trans (hm k).symm) ?_⟩
  · have z := k1 b u e
    have lt := Heap.lt_size z
    show (sortedHeap (s1.heap.push (seqObj "list" vs.toArray 0)) s1.heap.objs.size vs out).get? b = some u
    rw [sortedHeap_old (Nat.ne_of_lt lt) (by rw [size_push']; exact Nat.lt_succ_of_lt lt)]
    exact Heap.get?_push_of_some _ z
  · rw [pn.length_eq, ← pk.length_eq, List.length_map]
    exact sl
end
section
variable {X : Cx}
def rSetL (K : PySem.W.Frag) (w : World) : List V → Hp → VK → Prop := fun xs H Q => ∃ (l : Addr) (ns : List Int), xs = [.ref l] ∧ SqL K H l (ns.map V.int) ∧ ns.length ≤ 1000 ∧ ∀ p c, H p = none → Q (.ref p) (upd H p (SetO w p (fun k => decide (k ∈ ns)) c))
theorem cr_setL (hc : X.calm = true) : CallR X (.type "set") (rSetL X.K X.w) := by
  intro pins s σ H xs us Q I r h
  obtain ⟨l, ns, rfl, hs, hn, q⟩ := h
  obtain ⟨its, rv, hl, _⟩ := I.list hs
  rw [Vals.ref1 r]
  refine set_of_list (its := its.toArray) (I.ok.hd hc) hl.isList rv.ints (by unfold scanBound; omega) fun h' tk c R _ k => ?_
  exact ⟨.ref _, _, I.laid (t' := tk) k (Nat.le_refl _) (setO_new R), rfl, q _ c (I.hok.fresh (Nat.le_refl _))⟩
def rSrtS (w : World) : List V → Hp → VK → Prop := fun xs H Q => ∃ (a : Addr) (S : Int → Bool) (n : Nat), xs = [.ref a] ∧ H a = some (SetO w a S n) ∧ ∀ (ns : List Int) (p : Addr), ns.Pairwise (· < ·) → (∀ k : Int, k ∈ ns ↔ S k = true) → H p = none → Q (.ref p) (upd H p (.lst (ns.map V.int)))
theorem cr_srtS (hc : X.calm = true) : CallR X (.builtin "sorted") (rSrtS X.w) := by
  intro pins s σ H xs us Q I r h
  obtain ⟨a, S, n, rfl, ha, q⟩ := h
  rw [Vals.ref1 r]
  refine sorted_of_set (setO_get I ha) (I.ok.hd hc) fun s' p out c ns k g o hp hg hi hs hm hl => ?_
  have np : H p = none := I.hok.fresh hp
  have J : Inv X pins σ (upd H p (.lst (ns.map V.int))) { s with heap := s'.heap, gens := s'.gens, drawn := s'.drawn, toks := s'.toks } :=
    I.call (ch := []) (Un.laid k hp np) (I.hok.laid k hp ⟨by rw [List.length_map]; exact hl, out.toList, c, vals_of_ints hi, hg⟩) (by rw [g]; exact I.bare) (fun _ z => nomatch z)
  obtain ⟨hp2, gg, dr, tk, os⟩ := s'
  obtain rfl : os = s.os := o
  exact ⟨.ref p, _, J, rfl, q ns p hs hm np⟩
end
end WP
namespace WP
open PySem L2
abbrev s_picks : Stmt := top 18
abbrev s_is_picked : Stmt := top 19
/-- the place that the window at j picks -/
def plc (s w k : Nat) (tb ds : List Nat) (j : Nat) : Nat := j + tb.getD (num s ((ds.drop j).take (w + k - 1))) 0
/-- how many windows a text has -/
def wins (w k : Nat) (ds : List Nat) : Nat := ds.length + 1 - (w + k - 1)
def Places (s w k : Nat) (tb ds : List Nat) (ns : List Int) : Prop := ns.Pairwise (· < ·) ∧ ∀ z : Int, z ∈ ns ↔ ∃ j, j < wins w k ds ∧ z = (plc s w k tb ds j : Nat)
section
variable {K : PySem.W.Frag} {mg : Str → Option Value} {base : Heap} {w : World} {P : Program}
theorem asc_few : ∀ (m : Nat) (ns : List Int) (f : Nat → Int), ns.Pairwise (· < ·) → (∀ z ∈ ns, ∃ j, j < m ∧ z = f j) → ns.length ≤ m := by
  intro m ns f hp hz
  have nd : ns.Nodup := hp.imp fun h => Int.ne_of_lt h
  have := List.Nodup.length_le_of_subset nd (l₂ := (List.range m).map f) (fun z h => by
    obtain ⟨j, hj, rfl⟩ := hz z h
    exact List.mem_map.mpr ⟨j, List.mem_range.mpr hj, rfl⟩)
  rw [List.length_map, List.length_range] at this
  exact this
theorem places_few {s w k : Nat} {tb ds : List Nat} {ns : List Int} (h : Places s w k tb ds ns) : ns.length ≤ wins w k ds :=
  asc_few _ ns (fun j => ((plc s w k tb ds j : Nat) : Int)) h.1 fun z hz => (h.2 z).mp hz
/-! ### picks -/
theorem wins_int {w k : Nat} (hw : 1 ≤ w) (n : Nat) : ((n : Int) - ((w : Int) + k - 1) + 1).toNat = n + 1 - (w + k - 1) := by omega
theorem win_ok {s n j : Nat} {ds : List Nat} (h : j + n ≤ ds.length) (hd : Dig s ds) : ((ds.drop j).take n).length = n ∧ Dig s ((ds.drop j).take n) :=
  ⟨by rw [List.length_take, List.length_drop]; omega, (hd.drop j).take n⟩
abbrev nPicks : List Str := ["rule", "text", "size", "places", "at"]
theorem scPicks : FnScope nPicks ["rule", "text"] (defScope s_picks) := ⟨rfl, rfl, rfl, by decide +kernel, rfl, by decide +kernel, by decide +kernel⟩
def spPicksV (C : Addr) : Sp := fun vs H Q _ => ∃ (x : Addr) (s w k : Nat) (tb ds : List Nat), vs = [.ref x, tv ds] ∧ RuleAt C H x s w k tb ∧ OkG s w k ∧ tb.length = s ^ (w + k - 1) ∧ ds.length ≤ 1000 ∧ Dig s ds ∧
  ∀ H' t ns, Same H H' → H t = none → H' t = some (.tup (ns.map V.int)) → Places s w k tb ds ns → Q (.ref t) H'
theorem ok_picksV {f fC fO C : Addr} {fd fdC fdO : FuncData} (F : Fun K "picks" "picks" s_picks f fd) (T : RTxt K mg C) (ml : mg "len" = none) (mr : mg "range" = none) (mt : mg "tuple" = none) (mso : mg "sorted" = none) (mse : mg "set" = none)
    (GC : FnOk P w K mg base CX0 1 fC fdC ["letters", "text"] spCheck) (kC : PySem.W.keepIn K (.ref fC) = true) (bC : Binds K fdC ["letters", "text"] []) (gC : mg "check_letters" = some (.ref fC))
    (GO : FnOk P w K mg base CX0 2 fO fdO ["self", "window"] (spOffset C)) (mO : Meth K C "offset" fO) (bO : Binds K fdO ["self", "window"] []) :
    FnOk P w K mg base CX0 3 f fd ["rule", "text"] (spPicksV C) := by
  refine F.ok scPicks (fun vs H Q E h => ?_) (fun cdv A outer s₀ H vs Q E hr h => ?_)
  · obtain ⟨x, s, w, k, tb, ds, rfl, _⟩ := h
    rfl
  · obtain ⟨x, s, w, k, tb, ds, rfl, hR, og, htl, hl, hd, q⟩ := h
    have hr1 : Room 1 _ := hr.mono (by decide)
    obtain ⟨h1, h2, h3, h4, h5⟩ := id og
    obtain ⟨dx, t, hx, htt⟩ := id hR
    refine ⟨_, pss_cons (ps_expr (pe_call GC hr1 (by rfl) gC kC bC .nil pass0 (pa_cons (pe_fld (pv 0) rfl) (pa_cons (pv 1) pa_nil))))
      (pss_cons (ps_set (i := 2) scPicks.nd rfl (.inr rfl) (pe_op op_sub (pe_op op_add (pe_fld (pv 0) rfl) (pe_fld (pv 0) rfl)) pe_int))
      (pss_cons (ps_setLc (i := 3) (own := [("at", 4)]) (g := gName 4) (tt := tYes) rfl scPicks.nd rfl rfl (sw_true rfl rfl rfl (by decide +kernel))
          (pi_range1 (by rfl) mr (pa_cons (pe_op op_add (pe_op op_sub (pe_callB call_len_str (by rfl) ml PySem.boot_len (pa_cons (pv 1) pa_nil)) (pv 2)) pe_int) pa_nil))
          (blkOk_by (own := [("at", 4)]) (N := nPicks) (sc := defScope s_picks) (by decide +kernel)) (fun _ _ _ _ _ => pg_name (i := 4) scPicks.nd rfl (.inl rfl)) (fun _ _ _ _ _ => pts_nil)
          (fun _ _ _ _ _ => pe_op op_add (pv 4) (pe_meth (pv 0) T.cl mO GO hr bO .nil pass0 (pa_cons (pe_slice sl_str (pv 1) (po_some (pv 4)) (po_some (pe_op op_add (pv 4) (pv 2)))) pa_nil))))
      (pss_one (ps_ret (pe_callTy call_tuple_of (by rfl) mt (by decide +kernel) (pa_cons (pe_callB (cr_srtS rfl) (by rfl) mso (by decide +kernel) (pa_cons (pe_callTy (cr_setL rfl) (by rfl) mse (by decide +kernel) (pa_cons (pv 3) pa_nil)) pa_nil)) pa_nil)))))), ?_⟩
    refine ⟨_, rfl, x, C, dx, _, _, rfl, hx, T.cl, T.nL, rf_letters _ _ _ _, _, rfl, s, ds, rfl, h1, hd, by omega, fun H1 s1 => ?_⟩
    have hx1 := s1 _ _ hx
    have hz : (tx ds).length ≤ sizeLine := by rw [tx_len]; exact Nat.le_of_lt (big_size (by omega))
    refine ⟨_, rfl, x, C, dx, _, _, rfl, hx1, T.cl, T.nW, rf_w _ _ _ _, _, rfl, x, C, dx, _, _, rfl, hx1, T.cl, T.nK, rf_k _ _ _ _, _, _, rfl, rfl, _, _, rfl, rfl, ?_⟩
    refine ⟨_, rfl, tx ds, rfl, hz, _, rfl, _, _, rfl, rfl, _, _, rfl, rfl, _, rfl, ?_, ?_, fun D nD => ?_⟩
    · rw [tx_len]
      omega
    · rw [tx_len]
      omega
    have nf : ∀ t, (rflds s w k t).lookup ("offset" : Str) = none := fun t => rf_no (by decide +kernel) (by decide +kernel) (by decide +kernel) (by decide +kernel) s w k t
    have en : (((tx ds).length : Int) - ((w : Int) + k - 1) + 1).toNat = wins w k ds := by rw [tx_len]; exact wins_int h2 _
    refine lc_acc walk_range nD (fun i => (List.range i).map fun j => iv (plc s w k tb ds j)) rfl (fun i hi => ?_) (fun _ _ => trivial) ?_ ?_
    · rw [List.length_map, List.length_range]
      rw [en] at hi
      unfold wins at hi
      exact big_size (by omega)
    · rintro i y H2 H2' hi s2 ⟨rfl, rfl⟩ kk k0
      rw [en] at hi
      unfold wins at hi
      have hR2 := hR.same (s1.trans s2)
      obtain ⟨g1, g2⟩ := win_ok (s := s) (n := w + k - 1) (j := i) (ds := ds) (by omega) hd
      refine ⟨rfl, yes_i ?_⟩
      refine ⟨_, rfl, _, rfl, x, dx, _, rfl, s2 _ _ hx1, nf _, _, rfl, _, rfl, _, rfl, _, rfl, _, rfl, _, _, rfl, rfl, _, rfl, tx ds, rfl, hz, x, s, w, k, tb, (ds.drop i).take (w + k - 1), ?_, hR2, og, htl, g1, g2, fun H3 s3 => ⟨_, _, rfl, rfl, kk _ _ s3 ?_⟩⟩
      · show [V.ref x, V.str (cutS (tx ds) (some (0 + (i : Int))) (some (0 + (i : Int) + ((w : Int) + k - 1))))] = _
        rw [Int.zero_add, show (i : Int) + ((w : Int) + k - 1) = ((i + (w + k - 1) : Nat) : Int) by omega, cut_mid, Nat.add_sub_cancel_left]
      · rw [map_range_succ]
        show _ ++ [V.int _] = _ ++ [V.int _]
        congr 2
        show V.int _ = V.int _
        congr 1
        unfold plc
        omega
    intro H2 s2 hD
    rw [en] at hD
    have e1 : ((List.range (wins w k ds)).map fun j => iv (plc s w k tb ds j)) = ((List.range (wins w k ds)).map fun j => ((plc s w k tb ds j : Nat) : Int)).map V.int := by
      rw [List.map_map]
      rfl
    rw [e1] at hD
    refine ⟨_, rfl, D, _, rfl, SqL.of hD, ?_, fun p c np => ⟨p, _, c, rfl, upd_same, fun ns p2 asc mem np2 => ⟨p2, _, rfl, .inl ⟨SqL.of upd_same, fun t2 nt2 => ?_⟩⟩⟩⟩
    · rw [List.length_map, List.length_range]
      unfold wins
      omega
    have s3 := fun o => same_upd (o := o) np
    have s4 := same_upd (o := .lst (ns.map V.int)) np2
    have s5 := same_upd (o := .tup (ns.map V.int)) nt2
    have sz := ((s1.trans s2).trans (s3 _)).trans s4
    refine q _ t2 ns (sz.trans s5) (sz.free nt2) upd_same ⟨asc, fun z => (mem z).trans ?_⟩
    rw [decide_eq_true_iff, List.mem_map]
    constructor
    · rintro ⟨j, hj, e⟩
      exact ⟨j, List.mem_range.mp hj, e.symm⟩
    · rintro ⟨j, hj, e⟩
      exact ⟨j, List.mem_range.mpr hj, e.symm⟩
/-! ### whether the place amid a text is picked -/
theorem scIsPicked : FnScope ["rule", "around"] ["rule", "around"] (defScope s_is_picked) := ⟨rfl, rfl, rfl, by decide +kernel, rfl, by decide +kernel, by decide +kernel⟩
/-- whether the place a is picked -/
def pkd (s w k : Nat) (tb ds : List Nat) (a : Nat) : Bool := (List.range (wins w k ds)).any fun j => plc s w k tb ds j == a
theorem pkd_iff {s w k : Nat} {tb ds : List Nat} {a : Nat} : pkd s w k tb ds a = true ↔ ∃ j, j < wins w k ds ∧ (a : Int) = (plc s w k tb ds j : Nat) := by
  unfold pkd
  rw [List.any_eq_true]
  constructor
  · rintro ⟨j, hj, e⟩
    exact ⟨j, List.mem_range.mp hj, by rw [eq_of_beq e]⟩
  · rintro ⟨j, hj, e⟩
    exact ⟨j, List.mem_range.mpr hj, beq_iff_eq.mpr (Int.ofNat.inj e).symm⟩
def spIsPickedV (C : Addr) : Sp := fun vs H Q _ => ∃ (x : Addr) (s w k : Nat) (tb ds : List Nat), vs = [.ref x, tv ds] ∧ RuleAt C H x s w k tb ∧ OkG s w k ∧ tb.length = s ^ (w + k - 1) ∧ ds.length ≤ 1000 ∧ Dig s ds ∧
  ∀ H', Same H H' → Q (.bl (pkd s w k tb ds (w - 1))) H'
theorem inV_int {z : Int} : ∀ {ns : List Int}, inV (.int z) (ns.map V.int) = decide (z ∈ ns) := by
  intro ns
  unfold inV
  rw [List.any_map, Bool.eq_iff_iff, List.any_eq_true, decide_eq_true_iff]
  constructor
  · rintro ⟨x, hx, e⟩
    have e2 : (x == z) = true := e
    rw [← eq_of_beq e2]
    exact hx
  · intro h
    refine ⟨z, h, ?_⟩
    show (z == z) = true
    exact beq_self_eq_true _
theorem flat_ints (ns : List Int) : (ns.map V.int).all flatV = true := by
  rw [List.all_map, List.all_eq_true]
  intro z _
  rfl
theorem in_places {s w k : Nat} {tb ds : List Nat} {ns : List Int} (h : Places s w k tb ds ns) (a : Nat) {z : Int} (hz : z = (a : Nat)) : inV (V.int z) (ns.map V.int) = pkd s w k tb ds a := by
  subst hz
  rw [inV_int, Bool.eq_iff_iff, decide_eq_true_iff, h.2, pkd_iff]
theorem ok_is_pickedV {f fP C : Addr} {fd fdP : FuncData} (F : Fun K "is_picked" "is_picked" s_is_picked f fd) (T : RTxt K mg C)
    (GP : FnOk P w K mg base CX0 3 fP fdP ["rule", "text"] (spPicksV C)) (kP : PySem.W.keepIn K (.ref fP) = true) (bP : Binds K fdP ["rule", "text"] []) (gP : mg "picks" = some (.ref fP)) :
    FnOk P w K mg base CX0 4 f fd ["rule", "around"] (spIsPickedV C) := by
  refine F.ok scIsPicked (fun vs H Q E h => ?_) (fun cdv A outer s₀ H vs Q E hr h => ?_)
  · obtain ⟨x, s, w, k, tb, ds, rfl, _⟩ := h
    rfl
  · obtain ⟨x, s, w, k, tb, ds, rfl, hR, og, htl, hl, hd, q⟩ := h
    obtain ⟨h1, h2, h3, h4, h5⟩ := id og
    obtain ⟨dx, t, hx, htt⟩ := id hR
    refine ⟨_, pss_one (ps_ret (pe_cmpR (inSq K) (pe_op op_sub (pe_fld (pv 0) rfl) pe_int) (pe_call GP (hr.mono (by decide)) (by rfl) gP kP bP .nil pass0 (pa_cons (pv 0) (pa_cons (pv 1) pa_nil))) (by rfl))), ?_⟩
    refine ⟨_, rfl, x, C, dx, _, _, rfl, hx, T.cl, T.nW, rf_w _ _ _ _, _, _, rfl, rfl, _, rfl, _, rfl, x, s, w, k, tb, ds, rfl, hR, og, htl, hl, hd, fun H1 t2 ns s1 nt ht2 hp => ⟨t2, _, rfl, .inr (SqT.of ht2), rfl, flat_ints ns, ?_⟩⟩
    show Q (.bl (inV (V.int ((w : Int) - 1)) (ns.map V.int))) H1
    rw [in_places hp (w - 1) (by omega)]
    exact q H1 s1
end
end WP
namespace WP
open PySem L2
abbrev s_places : Stmt := top 39
section
variable {K : PySem.W.Frag} {mg : Str → Option Value} {base : Heap} {w : World} {P : Program}
/-! ### the law's own places -/
abbrev nPlaces : List Str := ["_law_drawn", "_law_told", "_law_size", "_law_found", "_law_at", "_law_spot_here"]
theorem scPlaces : FnScope nPlaces ["_law_drawn", "_law_told"] (defScope s_places) := ⟨rfl, rfl, rfl, by decide +kernel, rfl, by decide +kernel, by decide +kernel⟩
def spPlaces : Sp := fun vs H Q _ => ∃ (d p : Addr) (s w k : Nat) (tb ds : List Nat), vs = [.ref d, tv ds] ∧ DrawnAt H d p s w k tb ∧ OkS s w k ∧ tb.length = s ^ (w + k - 1) ∧ ds.length ≤ 1000 ∧ Dig s ds ∧
  ∀ H' t ns, Same H H' → H t = none → H' t = some (.lst (ns.map V.int)) → Places s w k tb ds ns → Q (.ref t) H'
theorem inV_iv {z : Nat} {l : List Nat} : inV (iv z) (l.map iv) = decide (z ∈ l) := by
  have h := inV_int (z := (z : Int)) (ns := l.map fun (n : Nat) => (n : Int))
  rw [List.map_map] at h
  refine Eq.trans h ?_
  rw [Bool.eq_iff_iff, decide_eq_true_iff, decide_eq_true_iff, List.mem_map]
  constructor
  · rintro ⟨y, hy, e⟩
    rw [← Int.ofNat.inj e]
    exact hy
  · intro h
    exact ⟨z, h, rfl⟩
theorem flat_iv (l : List Nat) : (l.map iv).all flatV = true := by
  rw [List.all_map, List.all_eq_true]
  intro z _
  rfl
theorem add_eq {i j z : Int} {Q : VK} {H : Hp} (e : i + j = z) (h : Q (.int z) H) : rI0 (fun a b => V.int (a + b)) (.int i) (.int j) H Q := ⟨i, j, rfl, rfl, by rw [← e] at h; exact h⟩
theorem asc_of_le {ns : List Int} (h : ns.Pairwise (· ≤ ·)) (d : ns.Nodup) : ns.Pairwise (· < ·) := lt_of_le_nodup ns h d
theorem ok_places {f fS : Addr} {fd fdS : FuncData} (F : Fun K "_law_places" "_law_places" s_places f fd) (ml : mg "len" = none) (mr : mg "range" = none) (mi : mg "int" = none) (mso : mg "sorted" = none)
    (GS : FnOk P w K mg base CX0 1 fS fdS ["_law_drawn", "_law_window"] spSpot) (kS : PySem.W.keepIn K (.ref fS) = true) (bS : Binds K fdS ["_law_drawn", "_law_window"] []) (gS : mg "_law_spot" = some (.ref fS)) :
    FnOk P w K mg base CX0 2 f fd ["_law_drawn", "_law_told"] spPlaces := by
  refine F.ok scPlaces (fun vs H Q E h => ?_) (fun cdv A outer s₀ H vs Q E hr h => ?_)
  · obtain ⟨d, p, s, w, k, tb, ds, rfl, _⟩ := h
    rfl
  · obtain ⟨d, p, s, w, k, tb, ds, rfl, hD, ok, htl, hl, hd, q⟩ := h
    obtain ⟨h1, h2, h3, h4, h5, h6⟩ := id ok
    refine ⟨_, pss_cons (ps_par (i := 2) (j := 3) rfl scPlaces.nd rfl rfl (by decide) rfl rfl (pa_cons (pe_op op_sub (pe_op op_add (pe_ix ix_tup (pv 0) pe_int (fun _ _ => rfl)) (pe_ix ix_tup (pv 0) pe_int (fun _ _ => rfl))) pe_int) (pa_cons (pe_lst pa_nil) pa_nil)) (by rfl))
      (pss_cons (ps_for PassesOwn.never rfl (pi_range1 (by rfl) mr (pa_cons (pe_op op_add (pe_op op_sub (pe_callB call_len_str (by rfl) ml PySem.boot_len (pa_cons (pv 1) pa_nil)) (pv 2)) pe_int) pa_nil)) (pg_name (i := 4) scPlaces.nd rfl (.inl rfl))
        (pss_cons (ps_set (i := 5) scPlaces.nd rfl (.inl rfl) (pe_op op_add (pv 4) (pe_call GS (hr.mono (by decide)) (by rfl) gS kS bS .nil pass0 (pa_cons (pv 0) (pa_cons (pe_slice sl_str (pv 1) (po_some (pv 4)) (po_some (pe_op op_add (pv 4) (pv 2)))) pa_nil)))))
        (pss_one (ps_expr (pe_bm PySem.F.plainAttrs_list PySem.F.slot_list_extend PySem.F.type_list_extend mt_extend (pv 3) (pa_cons (pe_ifExp (pt_cmpR op_notIn_seq (pv 5) (pv 3) (by rfl)) (pe_lst (pa_cons (pv 5) pa_nil)) (pe_lst pa_nil)) pa_nil))))))
      (pss_one (ps_ret (pe_callB cr_sortedI (by rfl) mso (by decide +kernel) (pa_cons (pe_lc (own := [("_law_spot_here", 5)]) (g := gName 5) (tt := tYes) rfl scPlaces.nd (pi_list (pv 3))
        (blkOk_by (own := [("_law_spot_here", 5)]) (N := nPlaces) (sc := defScope s_places) (by decide +kernel)) (fun _ _ _ _ _ => pg_name (i := 5) scPlaces.nd rfl (.inl rfl)) (fun _ _ _ _ _ => pts_nil)
        (fun _ _ _ _ _ => pe_callTy call_int1 (by rfl) mi (by decide +kernel) (pa_cons (pv 5) pa_nil))) pa_nil))))), ?_⟩
    have hT : SqT K H d [iv s, iv w, iv k, .ref p] := SqT.of hD.1
    have hz : (tx ds).length ≤ sizeLine := by rw [tx_len]; exact Nat.le_of_lt (big_size (by omega))
    refine ⟨_, rfl, d, _, _, _, rfl, rfl, hT, atI_nat (j := 1) rfl, _, rfl, d, _, _, _, rfl, rfl, hT, atI_nat (j := 2) rfl, _, _, rfl, rfl, _, _, rfl, rfl, by show 0 ≤ sizeLine; decide, fun L nL => ⟨_, _, rfl, ?_⟩⟩
    have en : (((tx ds).length : Int) - ((w : Int) + k - 1) + 1).toNat = wins w k ds := by rw [tx_len]; exact wins_int h2 _
    have wl : wins w k ds ≤ 1001 := by unfold wins; omega
    refine ⟨_, rfl, tx ds, rfl, hz, _, rfl, _, _, rfl, rfl, _, _, rfl, rfl, _, rfl, ?_, ?_, for_range (lo := 0) (fun i σ H' => ∃ z4 z5 acc, σ = [some (.ref d), some (tv ds), some (.int ((w : Int) + k - 1)), some (.ref L), z4, z5] ∧ Same H H' ∧ H' L = some (.lst (acc.map iv)) ∧ acc.Nodup ∧ (∀ z, z ∈ acc ↔ ∃ j, j < i ∧ z = plc s w k tb ds j) ∧ acc.length ≤ i)
      ⟨none, none, [], rfl, same_upd nL, upd_same, List.nodup_nil, (fun z => ⟨fun h => absurd h List.not_mem_nil, fun ⟨j, hj, _⟩ => absurd hj (Nat.not_lt_zero j)⟩), Nat.le_refl 0⟩ ?_ ?_⟩
    · rw [tx_len]
      omega
    · rw [tx_len]
      omega
    · rintro i σ H1 hi ⟨z4, z5, acc, rfl, s1, hL, nd, mem, al⟩
      rw [en] at hi
      have hi2 := hi
      unfold wins at hi2
      obtain ⟨g1, g2⟩ := win_ok (s := s) (n := w + k - 1) (j := i) (ds := ds) (by omega) hd
      refine ⟨_, rfl, _, rfl, _, rfl, _, rfl, _, rfl, _, rfl, _, rfl, _, _, rfl, rfl, _, rfl, tx ds, rfl, hz, d, p, s, w, k, tb, (ds.drop i).take (w + k - 1), ?_, hD.same s1, ok, htl, g1, g2, add_eq (z := (plc s w k tb ds i : Nat)) ?_ ?_⟩
      · show [V.ref d, V.str (cutS (tx ds) (some (0 + (i : Int))) (some (0 + (i : Int) + ((w : Int) + k - 1))))] = _
        rw [Int.zero_add, show (i : Int) + ((w : Int) + k - 1) = ((i + (w + k - 1) : Nat) : Int) by omega, cut_mid, Nat.add_sub_cancel_left]
      · unfold plc
        omega
      have step : ∀ z, (z ∈ acc ∨ z = plc s w k tb ds i) ↔ ∃ j, j < i + 1 ∧ z = plc s w k tb ds j := fun z => by
        rw [mem z]
        constructor
        · rintro (⟨j, hj, e⟩ | e)
          · exact ⟨j, by omega, e⟩
          · exact ⟨i, by omega, e⟩
        · rintro ⟨j, hj, e⟩
          by_cases hji : j = i
          · exact .inr (hji ▸ e)
          · exact .inl ⟨j, by omega, e⟩
      refine ⟨_, rfl, .inl ⟨rfl, _, .inl (.inl hL)⟩, _, rfl, _, rfl, L, _, rfl, .inl (.inl (.inl hL)), rfl, flat_iv acc, ?_⟩
      refine ⟨_, rfl, ?_⟩
      show if (!inV (iv (plc s w k tb ds i)) (acc.map iv)) = true then _ else _
      rw [inV_iv]
      have nLH : H L = none := nL
      by_cases hm : plc s w k tb ds i ∈ acc
      · rw [decide_eq_true hm]
        refine iteF ⟨by show 0 ≤ sizeLine; decide, fun M nM => ⟨L, M, _, [], rfl, rfl, same_upd nM _ _ hL, upd_same, ?_, _, _, acc, rfl, same_put nLH (s1.trans (same_upd nM)), ?_, nd, fun z => ?_, by omega⟩⟩
        · rw [List.length_map]
          exact Nat.le_of_lt (big_size (by show acc.length + 0 ≤ _; omega))
        · rw [upd_same, List.append_nil]
        · rw [← step z]
          exact ⟨.inl, fun h => h.elim id fun e => e ▸ hm⟩
      · rw [decide_eq_false hm]
        refine iteT ⟨_, rfl, by show 1 ≤ sizeLine; decide, fun M nM => ⟨L, M, _, [iv (plc s w k tb ds i)], rfl, rfl, same_upd nM _ _ hL, upd_same, ?_, _, _, acc ++ [plc s w k tb ds i], rfl, same_put nLH (s1.trans (same_upd nM)), ?_, ?_, fun z => ?_, ?_⟩⟩
        · rw [List.length_map]
          exact Nat.le_of_lt (big_size (by show acc.length + 1 ≤ _; omega))
        · rw [upd_same, List.map_append]
          rfl
        · refine List.nodup_append.mpr ⟨nd, List.pairwise_singleton .., fun a ha b hb e => hm ?_⟩
          rw [List.mem_singleton] at hb
          rw [← hb, ← e]
          exact ha
        · rw [← step z, List.mem_append, List.mem_singleton]
        · rw [List.length_append]
          show acc.length + 1 ≤ i + 1
          omega
    · rintro σ H1 ⟨z4, z5, acc, rfl, s1, hL, nd, mem, al⟩
      rw [en] at mem al
      refine ⟨_, rfl, L, rfl, ⟨_, .inl (.inl hL)⟩, fun D nD => ?_⟩
      refine lc_acc (walk_list (K := K) (a := L) (xs := acc.map iv)) nD (fun i => (acc.take i).map iv) rfl (fun i hi => ?_) (fun H2 s2 => .inl (.inl (s2 _ _ hL))) ?_ ?_
      · rw [List.length_map, List.length_take]
        exact big_size (by omega)
      · rintro i y H2 H2' hi s2 ⟨rfl, hy⟩ kk k0
        obtain ⟨z, hz2, rfl⟩ := iv_at hy
        refine ⟨rfl, yes_i ⟨_, rfl, .inl ⟨_, rfl, kk _ _ (Same.refl _) ?_⟩⟩⟩
        show (acc.take (i + 1)).map iv = _
        rw [List.take_add_one, hz2, List.map_append]
        rfl
      · intro H2 s2 hD2
        rw [List.length_map, List.take_length] at hD2
        have e1 : acc.map iv = (acc.map fun (n : Nat) => (n : Int)).map V.int := by
          rw [List.map_map]
          rfl
        rw [e1] at hD2
        refine ⟨D, _, rfl, SqL.of hD2, fun ns' t pm asc nt => ?_⟩
        have nd2 : (acc.map fun (n : Nat) => (n : Int)).Nodup := by
          refine List.pairwise_map.mpr (nd.imp fun h e => h (Int.ofNat.inj e))
        refine q _ t ns' ((s1.trans s2).trans (same_upd nt)) ((s1.trans s2).free nt) upd_same ⟨asc_of_le asc (pm.nodup_iff.mpr nd2), fun z => ?_⟩
        rw [pm.mem_iff, List.mem_map]
        constructor
        · rintro ⟨n, hn, rfl⟩
          obtain ⟨j, hj, e⟩ := (mem n).mp hn
          exact ⟨j, hj, by rw [e]⟩
        · rintro ⟨j, hj, e⟩
          exact ⟨_, (mem _).mpr ⟨j, hj, rfl⟩, e.symm⟩
end
end WP
namespace WP
open PySem L2
/-! ### where a text stands among all -/
theorem flat_get {α β : Type} (f : α → List β) (n : Nat) (h : ∀ x, (f x).length = n) : ∀ (l : List α) (q d : Nat) (x : α), l[q]? = some x → d < n → (l.flatMap f)[q * n + d]? = (f x)[d]?
  | [], q, d, x, e, _ => by cases e
  | y :: l, 0, d, x, e, hd => by
    have e2 : y = x := Option.some.inj e
    subst e2
    rw [List.flatMap_cons, Nat.zero_mul, Nat.zero_add, List.getElem?_append_left (by rw [h]; exact hd)]
  | y :: l, q + 1, d, x, e, hd => by
    have e2 : l[q]? = some x := e
    rw [List.flatMap_cons, List.getElem?_append_right (by rw [h, Nat.add_mul]; omega), h]
    have e3 : (q + 1) * n + d - n = q * n + d := by rw [Nat.add_mul]; omega
    rw [e3]
    exact flat_get f n h l q d x e2 hd
theorem allT_num {s : Nat} : ∀ (n : Nat) (ds : List Nat), ds.length = n → Dig s ds → (allT s n)[num s ds]? = some ds
  | 0, ds, h, _ => by
    have e : ds = [] := List.eq_nil_of_length_eq_zero h
    subst e
    rfl
  | n + 1, ds, h, hd => by
    have hne : ds ≠ [] := fun e => by rw [e] at h; cases h
    have e0 := List.dropLast_concat_getLast hne
    have h1 := allT_num n ds.dropLast (by rw [List.length_dropLast, h]; rfl) fun c hc => hd c (List.dropLast_subset ds hc)
    have h2 : ds.getLast hne < s := hd _ (List.getLast_mem hne)
    have e4 : num s ds = num s ds.dropLast * s + ds.getLast hne := by
      conv => lhs; rw [← e0]
      exact num_snoc s _ _
    rw [e4]
    show ((allT s n).flatMap fun t => (List.range s).map fun d => t ++ [d])[_]? = _
    rw [flat_get _ s (fun t => by rw [List.length_map, List.length_range]) _ _ _ _ h1 h2, List.getElem?_map, List.getElem?_range h2]
    exact congrArg some e0
end WP
namespace WP
open PySem L2
/-! ### the text at an index has this index -/
theorem allT_idx {s : Nat} (hs : 0 < s) : ∀ (n i : Nat) (ds : List Nat), (allT s n)[i]? = some ds → num s ds = i
  | 0, i, ds, h => by
    have hi : i = 0 := by
      have := (List.getElem?_eq_some_iff.mp h).1
      have e : (allT s 0).length = 1 := rfl
      omega
    subst hi
    have e : [] = ds := Option.some.inj h
    rw [← e]
    rfl
  | n + 1, i, ds, h => by
    have hl := (List.getElem?_eq_some_iff.mp h).1
    rw [allT_len, Nat.pow_succ] at hl
    have hq : i / s < s ^ n := Nat.div_lt_of_lt_mul (by rw [Nat.mul_comm]; exact hl)
    have hd : i % s < s := Nat.mod_lt _ hs
    have hq2 : i / s < (allT s n).length := by rw [allT_len]; exact hq
    have e1 := List.getElem?_eq_getElem hq2
    generalize (allT s n)[i / s] = t at e1
    have e2 : i = (i / s) * s + i % s := by rw [Nat.mul_comm]; exact (Nat.div_add_mod i s).symm
    have h3 : ((allT s n).flatMap fun t => (List.range s).map fun d => t ++ [d])[i]? = some ds := h
    rw [e2, flat_get _ s (fun t => by rw [List.length_map, List.length_range]) _ _ _ _ e1 hd, List.getElem?_map, List.getElem?_range hd] at h3
    have e3 : t ++ [i % s] = ds := Option.some.inj h3
    rw [← e3, num_snoc, allT_idx hs n _ t e1]
    exact e2.symm
theorem table_back {s n : Nat} {tb : List Nat} (hs : 0 < s) (hl : tb.length = s ^ n) : ((allT s n).map fun ds => tb.getD (num s ds) 0) = tb := by
  refine List.ext_getElem? fun i => ?_
  rw [List.getElem?_map]
  by_cases hi : i < tb.length
  · have h2 : i < (allT s n).length := by rw [allT_len, ← hl]; exact hi
    have e1 := List.getElem?_eq_getElem h2
    generalize (allT s n)[i] = ds at e1
    rw [e1, List.getElem?_eq_getElem hi]
    show some (tb.getD (num s ds) 0) = _
    rw [allT_idx hs n i ds e1, List.getD_eq_getElem?_getD, List.getElem?_eq_getElem hi]
    rfl
  · rw [List.getElem?_eq_none (by rw [allT_len, ← hl]; omega), List.getElem?_eq_none (by omega)]
    rfl
end WP
namespace WP
open PySem L2
abbrev s_known : Stmt := top 40
abbrev s_law : Stmt := top 43
/-! ### places amid texts -/
theorem tab_lt {s w k : Nat} {tb ds : List Nat} (ht : Tab s w k tb) (hl : ds.length = w + k - 1) (hd : Dig s ds) : tb.getD (num s ds) 0 < w := by
  have h : num s ds < tb.length := by rw [ht.1]; exact num_lt _ ds hl hd
  rw [List.getD_eq_getElem?_getD, List.getElem?_eq_getElem h]
  exact ht.2 _ (List.getElem_mem h)
theorem win_amid {ds : List Nat} {a n j m : Nat} (h : j + m ≤ n) : (((ds.drop a).take n).drop j).take m = (ds.drop (a + j)).take m := by
  rw [List.drop_take, List.take_take, List.drop_drop, Nat.min_eq_left (by omega)]
theorem pkd_amid {s w k : Nat} {tb ds : List Nat} {a : Nat} (hw : 1 ≤ w) (hk : 1 ≤ k) (ht : Tab s w k tb) (hd : Dig s ds) (ha : a + (2 * w + k - 2) ≤ ds.length) :
    pkd s w k tb ((ds.drop a).take (2 * w + k - 2)) (w - 1) = pkd s w k tb ds (a + w - 1) := by
  have hn : wins w k ((ds.drop a).take (2 * w + k - 2)) = w := by
    unfold wins
    rw [List.length_take, List.length_drop]
    omega
  rw [Bool.eq_iff_iff, pkd_iff, pkd_iff, hn]
  have off : ∀ j, j < w → plc s w k tb ((ds.drop a).take (2 * w + k - 2)) j + a = plc s w k tb ds (a + j) := fun j hj => by
    unfold plc
    rw [win_amid (by omega)]
    omega
  constructor
  · rintro ⟨j, hj, e⟩
    have := off j hj
    exact ⟨a + j, by unfold wins; omega, by omega⟩
  · rintro ⟨j, hj, e⟩
    have h1 : (tb.getD (num s ((ds.drop j).take (w + k - 1))) 0) < w := by
      unfold wins at hj
      obtain ⟨g1, g2⟩ := win_ok (s := s) (n := w + k - 1) (j := j) (ds := ds) (by omega) hd
      exact tab_lt ht g1 g2
    have h2 : plc s w k tb ds j = j + tb.getD (num s ((ds.drop j).take (w + k - 1))) 0 := rfl
    have h3 := off (j - a) (by omega)
    rw [show a + (j - a) = j by omega] at h3
    exact ⟨j - a, by omega, by omega⟩
theorem pow_amid {s w k : Nat} (h : OkS s w k) : s ^ (2 * w + k - 2) ≤ 65536 := by
  obtain ⟨h1, h2, h3, h4, h5, h6⟩ := h
  rw [show 2 * w + k - 2 = (w + k - 1) + (w - 1) by omega, Nat.pow_add]
  have h7 : s ^ (w - 1) ≤ s ^ (w + k - 1) := Nat.pow_le_pow_right (by omega) (by omega)
  exact Nat.mul_le_mul h6 (Nat.le_trans h7 h6)
theorem allT_new {s n i : Nat} {ds : List Nat} (hs : 0 < s) (h : (allT s n)[i]? = some ds) : ds ∉ (allT s n).take i := by
  intro hm
  obtain ⟨j, hj⟩ := List.mem_iff_getElem?.mp hm
  have hji : j < i := by
    have := (List.getElem?_eq_some_iff.mp hj).1
    rw [List.length_take] at this
    omega
  rw [List.getElem?_take_of_lt hji] at hj
  have e1 := allT_idx hs n i ds h
  have e2 := allT_idx hs n j ds hj
  omega
/-- an entry of what is known -/
abbrev ent (s w k : Nat) (tb ds : List Nat) : Key × V := (Sum.inr (tx ds), .bl (pkd s w k tb ds (w - 1)))
theorem valV_ent {s w k : Nat} {tb ds : List Nat} : ∀ {l : List (List Nat)}, ds ∈ l → valV (l.map (ent s w k tb)) (Sum.inr (tx ds)) = some (.bl (pkd s w k tb ds (w - 1))) := by
  intro l h
  unfold valV
  rw [List.find?_map]
  cases e : l.find? ((fun kv : Key × V => decide (kv.1 = Sum.inr (tx ds))) ∘ ent s w k tb) with
  | none =>
    exact absurd (decide_eq_true rfl) (List.find?_eq_none.mp e ds h)
  | some d2 =>
    have h2 := List.find?_some e
    have h3 : (Sum.inr (tx d2) : Key) = Sum.inr (tx ds) := of_decide_eq_true h2
    rw [tx_inj (Sum.inr.inj h3)]
    rfl
theorem put_ent {s w k : Nat} {tb ds : List Nat} {l : List (List Nat)} (h : ds ∉ l) (v : V) : putK (l.map (ent s w k tb)) (Sum.inr (tx ds)) v = l.map (ent s w k tb) ++ [(Sum.inr (tx ds), v)] := by
  unfold putK
  rw [if_neg]
  rw [List.any_map]
  intro z
  obtain ⟨d2, h2, h3⟩ := List.any_eq_true.mp z
  have h4 : (Sum.inr (tx d2) : Key) = Sum.inr (tx ds) := of_decide_eq_true h3
  rw [tx_inj (Sum.inr.inj h4)] at h2
  exact h h2
section
variable {K : PySem.W.Frag} {mg : Str → Option Value} {base : Heap} {w : World} {P : Program}
/-! ### all places amid texts -/
theorem scKnown : FnScope ["_law_drawn", "_law_found", "_law_told"] ["_law_drawn"] (defScope s_known) := ⟨rfl, rfl, rfl, by decide +kernel, rfl, by decide +kernel, by decide +kernel⟩
def spKnown : Sp := fun vs H Q _ => ∃ (d p : Addr) (s w k : Nat) (tb : List Nat), vs = [.ref d] ∧ DrawnAt H d p s w k tb ∧ OkS s w k ∧ tb.length = s ^ (w + k - 1) ∧
  ∀ H' m, Same H H' → H m = none → H' m = some (.dK ((allT s (2 * w + k - 2)).map (ent s w k tb))) → Q (.ref m) H'
theorem ok_known {f fX fS : Addr} {fd fdX fdS : FuncData} (F : Fun K "_law_known" "_law_known" s_known f fd)
    (GX : FnOk P w K mg base CX0 1 fX fdX ["_law_letters", "_law_size"] spTexts) (kX : PySem.W.keepIn K (.ref fX) = true) (bX : Binds K fdX ["_law_letters", "_law_size"] []) (gX : mg "_law_texts" = some (.ref fX))
    (GS : FnOk P w K mg base CX0 2 fS fdS ["_law_drawn", "_law_told"] spPlaces) (kS : PySem.W.keepIn K (.ref fS) = true) (bS : Binds K fdS ["_law_drawn", "_law_told"] []) (gS : mg "_law_places" = some (.ref fS)) :
    FnOk P w K mg base CX0 3 f fd ["_law_drawn"] spKnown := by
  refine F.ok scKnown (fun vs H Q E h => ?_) (fun cdv A outer s₀ H vs Q E hr h => ?_)
  · obtain ⟨d, p, s, w, k, tb, rfl, _⟩ := h
    rfl
  · obtain ⟨d, p, s, w, k, tb, rfl, hD, ok, htl, q⟩ := h
    obtain ⟨h1, h2, h3, h4, h5, h6⟩ := id ok
    have hr1 : Room 1 _ := hr.mono (by decide)
    refine ⟨_, pss_cons (ps_set (i := 1) scKnown.nd rfl (.inl rfl) pe_dnewK)
      (pss_cons (ps_for PassesOwn.never rfl (pi_list (pe_call GX hr1 (by rfl) gX kX bX .nil pass0 (pa_cons (pe_ix ix_tup (pv 0) pe_int (fun _ _ => rfl)) (pa_cons (pe_op op_sub (pe_op op_add (pe_op op_mul pe_int (pe_ix ix_tup (pv 0) pe_int (fun _ _ => rfl))) (pe_ix ix_tup (pv 0) pe_int (fun _ _ => rfl))) pe_int) pa_nil)))) (pg_name (i := 2) scKnown.nd rfl (.inl rfl))
        (pss_one (ps_dput (hu_of hr) (pv 1) (pv 2) (pe_cmpR op_in_seq (pe_op op_sub (pe_ix ix_tup (pv 0) pe_int (fun _ _ => rfl)) pe_int) (pe_call GS (hr.mono (by decide)) (by rfl) gS kS bS .nil pass0 (pa_cons (pv 0) (pa_cons (pv 2) pa_nil))) (by rfl)) rfl)))
      (pss_one (ps_ret (pv 1)))), ?_⟩
    intro m nm
    have s1 := same_upd (o := .dK []) nm
    have hT : SqT K (upd H m (.dK [])) d [iv s, iv w, iv k, .ref p] := SqT.of (s1 _ _ hD.1)
    refine ⟨_, rfl, d, _, _, _, rfl, rfl, hT, atI_nat (j := 0) rfl, _, rfl, d, _, _, _, rfl, rfl, hT, atI_nat (j := 1) rfl, _, _, rfl, rfl, .inl ⟨by decide, by decide⟩, _, rfl, d, _, _, _, rfl, rfl, hT, atI_nat (j := 2) rfl, _, _, rfl, rfl, _, _, rfl, rfl, s, 2 * w + k - 2, ?_, h1, by omega, Nat.le_trans (pow_amid ok) (by decide), fun H2 t s2 nt ht2 => ?_⟩
    · show [V.int (s : Nat), V.int (2 * (w : Int) + (k : Int) - 2)] = _
      rw [show 2 * (w : Int) + (k : Int) - 2 = ((2 * w + k - 2 : Nat) : Int) by omega]
    have hm2 := s2 _ _ (upd_same (H := H) (a := m) (o := .dK []))
    have tm : t ≠ m := ne_of ht2 hm2 (by intro z; cases z)
    refine ⟨t, rfl, ⟨_, SqL.of ht2⟩, for_list (K := K) (a := t) (xs := (allT s (2 * w + k - 2)).map tv) (fun i σ H' => ∃ z2, σ = [some (.ref d), some (.ref m), z2] ∧ Same H H' ∧ H' t = some (.lst ((allT s (2 * w + k - 2)).map tv)) ∧ H' m = some (.dK (((allT s (2 * w + k - 2)).take i).map (ent s w k tb))))
      ⟨none, rfl, s1.trans s2, ht2, hm2⟩ (fun i σ H' _ ⟨_, _, _, e, _⟩ => SqL.of e) ?_ ?_⟩
    · rintro i y σ H3 hy ⟨z2, rfl, s3, ht3, hm3⟩
      obtain ⟨ds, hds, rfl⟩ := tv_at hy
      obtain ⟨hl, hg⟩ := (allT_mem s _ ds).mp (List.mem_of_getElem? hds)
      refine ⟨_, rfl, d, _, _, _, rfl, rfl, SqT.of (s3 _ _ hD.1), atI_nat (j := 1) rfl, _, _, rfl, rfl, _, rfl, _, rfl, d, p, s, w, k, tb, ds, rfl, hD.same s3, ok, htl, by omega, hg, fun H4 t4 ns s4 nt4 ht4 hp => ⟨t4, _, rfl, .inl (SqL.of ht4), rfl, flat_ints ns, ?_⟩⟩
      have hm4 := s4 _ _ hm3
      have il : i < (allT s (2 * w + k - 2)).length := (List.getElem?_eq_some_iff.mp hds).1
      have := pow_amid ok
      refine ⟨_, rfl, _, rfl, m, _, rfl, DPut.k (k := Sum.inr (tx ds)) hm4 ?_, ?_⟩
      · rw [List.length_map, List.length_take]
        rw [allT_len] at il
        exact big_size (by omega)
      · refine ⟨_, rfl, same_put nm (s3.trans s4), by rw [upd_ne tm]; exact s4 _ _ ht3, ?_⟩
        rw [upd_same, put_ent (allT_new (by omega) hds)]
        show some (HO.dK (_ ++ [(Sum.inr (tx ds), V.bl (inV (V.int ((w : Int) - 1)) (ns.map V.int)))])) = _
        rw [in_places hp (w - 1) (by omega), List.take_add_one, hds, List.map_append]
        rfl
    · rintro σ H3 ⟨z2, rfl, s3, ht3, hm3⟩
      rw [List.length_map, List.take_length] at hm3
      exact ⟨_, rfl, q H3 m s3 nm hm3⟩
end
end WP
namespace WP
open PySem L2
abbrev s_text : Stmt := top 41
section
variable {K : PySem.W.Frag} {mg : Str → Option Value} {base : Heap} {w : World} {P : Program}
theorem atI_any {α : Type} {xs : List α} {z : Int} {j : Nat} {v : α} (e : z = (j : Int)) (h : xs[j]? = some v) : atI xs z = some v := by
  subst e
  exact atI_nat h
/-! ### one of the signs of a text -/
def spPickS : Sp := fun vs H Q _ => ∃ (b : Addr) (z : Str), vs = [.ref b, .str z] ∧ Box H b ∧ 0 < z.length ∧ z.length < 1000000 ∧ ∀ H' (j c : Nat), z.cps[j]? = some c → But b H H' → Box H' b → Q (.str ⟨#[c]⟩) H'
theorem ok_pickS {f fT : Addr} {fd fdT : FuncData} (F : Fun K "_law_pick" "_law_pick" s_pick f fd) (ml : mg "len" = none)
    (GT : FnOk P w K mg base CX0 1 fT fdT ["_law_box_here", "_law_many"] spTake) (kT : PySem.W.keepIn K (.ref fT) = true) (bT : Binds K fdT ["_law_box_here", "_law_many"] []) (gT : mg "_law_take" = some (.ref fT)) :
    FnOk P w K mg base CX0 2 f fd ["_law_box_here", "_law_items"] spPickS := by
  refine F.ok scPick (fun vs H Q E h => ?_) (fun cdv A outer s H vs Q E hr h => ?_)
  · obtain ⟨b, z, rfl, _⟩ := h
    rfl
  · obtain ⟨b, z, rfl, hb, h0, h1, q⟩ := h
    refine ⟨_, pss_one (ps_ret (pe_ix ix_str (pv 1) (pe_call GT (hr.mono (by decide)) (by rfl) gT kT bT .nil pass0 (pa_cons (pv 0) (pa_cons (pe_callB call_len_str (by rfl) ml PySem.boot_len (pa_cons (pv 1) pa_nil)) pa_nil))) (fun _ _ => rfl))), ?_⟩
    have hz : z.length ≤ sizeLine := Nat.le_of_lt (big_size (by omega))
    refine ⟨_, rfl, _, rfl, _, rfl, z, rfl, hz, b, _, rfl, hb, by omega, by omega, fun H' r r0 r1 hB hb' => ?_⟩
    have hj : r.toNat < z.cps.size := by
      have : z.length = z.cps.size := rfl
      omega
    refine ⟨z, r, z.cps[r.toNat], rfl, rfl, hz, ?_, q _ r.toNat _ (Array.getElem?_eq_getElem hj) hB hb'⟩
    exact atI_any (j := r.toNat) (by omega) (by rw [Array.getElem?_toList]; exact Array.getElem?_eq_getElem hj)
/-! ### a drawn text -/
theorem joinL_ones : ∀ ds : List Nat, TL.joinL [] (ds.map fun d => [97 + d]) = cod ds
  | [] => rfl
  | [_] => rfl
  | d :: e :: r => by
    have h := joinL_ones (e :: r)
    show [97 + d] ++ ([] ++ TL.joinL [] ((e :: r).map fun d => [97 + d])) = _
    rw [h]
    rfl
theorem join_tx (ds : List Nat) : Txt.join "" (ds.map fun d => tx [d]) = tx ds := by
  have h := SX.join_S [] (ds.map fun d => [97 + d])
  rw [joinL_ones, List.map_map] at h
  exact h
theorem sum_ones (ds : List Nat) : ((ds.map fun d => tx [d]).map (·.length)).sum = ds.length := by
  induction ds with
  | nil => rfl
  | cons d r ih =>
    rw [List.map_cons, List.map_cons, List.sum_cons, ih, List.length_cons]
    show 1 + r.length = _
    omega
abbrev nText : List Str := ["_law_box_here", "_law_letters", "_law_many", "_law_turn"]
theorem scText : FnScope nText ["_law_box_here", "_law_letters", "_law_many"] (defScope s_text) := ⟨rfl, rfl, rfl, by decide +kernel, rfl, by decide +kernel, by decide +kernel⟩
def spText : Sp := fun vs H Q _ => ∃ (b : Addr) (s n : Nat), vs = [.ref b, .int s, .int n] ∧ Box H b ∧ (s = 2 ∨ s = 3 ∨ s = 4) ∧ n ≤ 1000 ∧ ∀ H' ds, But b H H' → Box H' b → ds.length = n → Dig s ds → Q (tv ds) H'
theorem ok_text {f fP : Addr} {fd fdP : FuncData} (F : Fun K "_law_text" "_law_text" s_text f fd) (mr : mg "range" = none)
    (GP : FnOk P w K mg base CX0 2 fP fdP ["_law_box_here", "_law_items"] spPickS) (kP : PySem.W.keepIn K (.ref fP) = true) (bP : Binds K fdP ["_law_box_here", "_law_items"] []) (gP : mg "_law_pick" = some (.ref fP)) :
    FnOk P w K mg base CX0 3 f fd ["_law_box_here", "_law_letters", "_law_many"] spText := by
  refine F.ok scText (fun vs H Q E h => ?_) (fun cdv A outer s₀ H vs Q E hr h => ?_)
  · obtain ⟨b, s, n, rfl, _⟩ := h
    rfl
  · obtain ⟨b, s, n, rfl, hb, hs, hn, q⟩ := h
    refine ⟨_, pss_one (ps_ret (pe_join pe_str (pe_lc (own := [("_law_turn", 3)]) (g := gName 3) (tt := tYes) rfl scText.nd (pi_range1 (by rfl) mr (pa_cons (pv 2) pa_nil))
      (blkOk_by (own := [("_law_turn", 3)]) (N := nText) (sc := defScope s_text) (by decide +kernel)) (fun _ _ _ _ _ => pg_name (i := 3) scText.nd rfl (.inl rfl)) (fun _ _ _ _ _ => pts_nil)
      (fun _ _ _ _ _ => pe_call GP (hr.mono (by decide)) (by rfl) gP kP bP .nil pass0 (pa_cons (pv 0) (pa_cons (pe_slice sl_str pe_str po_none (po_some (pv 1))) pa_nil)))))), ?_⟩
    refine ⟨⟨_, rfl⟩, _, rfl, _, rfl, by omega, by omega, fun D nD => ?_⟩
    have Db : D ≠ b := box_ne hb nD
    refine lc_accB (b := b) walk_range nD Db (fun l => ∃ ds : List Nat, l = (ds.map fun d => tx [d]).map V.str ∧ Dig s ds) (fun G => Box G b) ⟨[], rfl, fun d hd => by cases hd⟩ (fun l _ hl => big_size (by omega)) (hb.but Db) (fun G o hG => hG.but Db) (fun _ _ => trivial) ?_ ?_
    · rintro i y G G' hi b2 hbG ⟨rfl, rfl⟩ kk
      refine ⟨rfl, yes_i ?_⟩
      refine ⟨_, rfl, _, rfl, _, rfl, ("abcd" : Str), rfl, by show 4 ≤ sizeLine; decide, b, abc s, ?_, hbG, ?_, ?_, fun G2 j c hc b3 hb3 => kk _ _ b3 hb3 fun l hl _ => ?_⟩
      · show [V.ref b, V.str (cutS ("abcd" : Str) none (some (s : Int)))] = _
        rw [abc_cut s hs]
      · show 0 < (abc s).cps.size
        rw [abc_size]
        omega
      · show (abc s).cps.size < _
        rw [abc_size]
        omega
      · obtain ⟨ds, rfl, hd⟩ := hl
        obtain ⟨hj, rfl⟩ := abc_at hc
        refine ⟨ds ++ [j], by rw [List.map_append, List.map_append]; rfl, fun d hdd => ?_⟩
        rcases List.mem_append.mp hdd with z | z
        · exact hd d z
        · rw [List.mem_singleton.mp z]
          exact hj
    · rintro G l b2 hbG ⟨ds, rfl, hd⟩ hl hD
      have en : ds.length = n := by
        rw [List.length_map, List.length_map] at hl
        omega
      refine ⟨("" : Str), D, ds.map fun d => tx [d], rfl, rfl, .inl (SqL.of hD), ?_, ?_⟩
      · rw [sum_ones, List.length_map]
        show ds.length + ds.length * 0 ≤ _
        omega
      · rw [join_tx]
        exact q _ ds b2 hbG en hd
end
end WP
namespace WP
open PySem L2
def spLaw (K : PySem.W.Frag) : Sp := fun vs H Q _ => ∃ (a : Addr) (ns : List Int), vs = [.ref a] ∧ SqL K H a (ns.map V.int) ∧ ns.length ≤ 63 ∧ ∀ H', Q (.bl true) H'
theorem same_but {H0 H H' : Hp} {b : Addr} (h : Same H0 H) (n : H0 b = none) (e : But b H H') : Same H0 H' := fun c o z => e c o (h c o z) (ne_of_none z n)
theorem ins_ne {a b C dx : Addr} {H : Hp} {fs : List (Str × V)} (hb : Box H b) (h : H a = some (.ins C dx fs)) : a ≠ b := by
  rintro rfl
  obtain ⟨i, j, k, e, _⟩ := hb.ex
  rw [e] at h
  cases h
theorem RuleAt.but {C x b : Addr} {H H' : Hp} {s w k : Nat} {tb : List Nat} (h : RuleAt C H x s w k tb) (hb : Box H b) (e : But b H H') : RuleAt C H' x s w k tb := by
  obtain ⟨dx, t, h1, h2⟩ := h
  exact ⟨dx, t, e _ _ h1 (ins_ne hb h1), e _ _ h2 (tup_ne hb h2)⟩
/-- a rule is there while a dict is locked -/
theorem RuleAt.lock {C x m : Addr} {H : Hp} {s w k : Nat} {tb : List Nat} {kvs : List (Key × V)} {o : HO} (h : RuleAt C H x s w k tb) (hm : H m = some (.dK kvs)) : RuleAt C (upd H m o) x s w k tb := by
  obtain ⟨dx, t, h1, h2⟩ := h
  exact ⟨dx, t, by rw [upd_ne (ne_of h1 hm (by intro z; cases z))]; exact h1, by rw [upd_ne (ne_of h2 hm (by intro z; cases z))]; exact h2⟩
theorem lock_same {m : Addr} {H H' : Hp} {u o : HO} (hm : H m = some u) (s : Same (upd H m o) H') : Same H (upd H' m u) := fun c v e => by
  by_cases h : c = m
  · subst h
    rw [upd_same, ← hm]
    exact e
  · rw [upd_ne h]
    exact s c v (by rw [upd_ne h]; exact e)
abbrev nLaw : List Str := ["_law_script", "_law_k", "_law_box_here", "_law_turn", "_law_drawn", "_law_made", "_law_known_here", "_law_told", "_law_wide", "_law_here", "_law_at", "_law_spot_here"]
theorem scLaw : FnScope nLaw ["_law_script"] (defScope s_law) := ⟨rfl, rfl, rfl, by decide +kernel, rfl, by decide +kernel, by decide +kernel⟩
section
variable {K : PySem.W.Frag} {mg : Str → Option Value} {base : Heap} {w : World} {P : Program}
theorem ok_law {f C fBx fT fX fR fO fN fI fP : Addr} {fd fdBx fdT fdX fdR fdO fdN fdI fdP : FuncData} (F : Fun K "law" "law" s_law f fd)
    (ml : mg "len" = none) (mr : mg "range" = none) (mx : mg "max" = none) (mn : mg "min" = none) (mp : mg "repr" = none) (T : RTxt K mg C)
    (GBx : FnOk P w K mg base CX0 1 fBx fdBx ["_law_script", "_law_k", "_law_own"] (spBox K)) (kBx : PySem.W.keepIn K (.ref fBx) = true) (bBx : Binds K fdBx ["_law_script", "_law_k", "_law_own"] []) (gBx : mg "_law_box" = some (.ref fBx))
    (GT : FnOk P w K mg base CX0 1 fT fdT ["_law_box_here", "_law_many"] spTake) (kT : PySem.W.keepIn K (.ref fT) = true) (bT : Binds K fdT ["_law_box_here", "_law_many"] []) (gT : mg "_law_take" = some (.ref fT))
    (GX : FnOk P w K mg base CX0 3 fX fdX ["_law_box_here", "_law_letters", "_law_many"] spText) (kX : PySem.W.keepIn K (.ref fX) = true) (bX : Binds K fdX ["_law_box_here", "_law_letters", "_law_many"] []) (gX : mg "_law_text" = some (.ref fX))
    (GR : FnOk P w K mg base CX0 4 fR fdR ["_law_box_here", "_law_most"] spRule) (kR : PySem.W.keepIn K (.ref fR) = true) (bR : Binds K fdR ["_law_box_here", "_law_most"] []) (gR : mg "_law_rule" = some (.ref fR))
    (GO : FnOk P w K mg base CX0 6 fO fdO ["_law_drawn"] (spRuleOf C)) (kO : PySem.W.keepIn K (.ref fO) = true) (bO : Binds K fdO ["_law_drawn"] []) (gO : mg "_law_rule_of" = some (.ref fO))
    (GN : FnOk P w K mg base CX0 3 fN fdN ["_law_drawn"] spKnown) (kN : PySem.W.keepIn K (.ref fN) = true) (bN : Binds K fdN ["_law_drawn"] []) (gN : mg "_law_known" = some (.ref fN))
    (GI : FnOk P w K mg base CX0 4 fI fdI ["rule", "around"] (spIsPickedV C)) (kI : PySem.W.keepIn K (.ref fI) = true) (bI : Binds K fdI ["rule", "around"] []) (gI : mg "is_picked" = some (.ref fI))
    (GP : FnOk P w K mg base CX0 3 fP fdP ["rule", "text"] (spPicksV C)) (kP : PySem.W.keepIn K (.ref fP) = true) (bP : Binds K fdP ["rule", "text"] []) (gP : mg "picks" = some (.ref fP)) :
    FnOk P w K mg base CX0 7 f fd ["_law_script"] (spLaw K) := by
  refine F.ok scLaw (fun vs H Q E h => ?_) (fun cdv A outer s₀ H vs Q E hr h => ?_)
  · obtain ⟨a, ns, rfl, _⟩ := h
    rfl
  · obtain ⟨a, ns, rfl, hS, hlen, q⟩ := h
    have hr1 : Room 1 _ := hr.mono (by decide)
    have hr3 : Room 3 _ := hr.mono (by decide)
    have hr4 : Room 4 _ := hr.mono (by decide)
    refine ⟨_, pss_cons (ps_for PassesOwn.never rfl (pi_range1 (by rfl) mr (pa_cons (pe_callB (call_max2 rfl) (by rfl) mx (by decide +kernel) (pa_cons pe_int (pa_cons (pe_callB (call_min2 rfl) (by rfl) mn (by decide +kernel) (pa_cons pe_int (pa_cons
          (pe_callB call_len_seq (by rfl) ml PySem.boot_len (pa_cons (pv 0) pa_nil)) pa_nil))) pa_nil))) pa_nil)) (pg_name (i := 1) scLaw.nd rfl (.inl rfl))
        (pss_cons (ps_set (i := 2) scLaw.nd rfl (.inl rfl) (pe_call GBx hr1 (by rfl) gBx kBx bBx .nil pass0 (pa_cons (pv 0) (pa_cons (pv 1) (pa_cons pe_int pa_nil)))))
        (pss_one (ps_for PassesOwn.never rfl (pi_range1 (by rfl) mr (pa_cons pe_int pa_nil)) (pg_name (i := 3) scLaw.nd rfl (.inl rfl))
          (pss_cons (ps_set (i := 4) scLaw.nd rfl (.inl rfl) (pe_call GR hr4 (by rfl) gR kR bR .nil pass0 (pa_cons (pv 2) (pa_cons pe_int pa_nil))))
          (pss_cons (ps_par (i := 5) (j := 6) rfl scLaw.nd rfl rfl (by decide) rfl rfl (pa_cons (pe_call GO (hr.mono (by decide)) (by rfl) gO kO bO .nil pass0 (pa_cons (pv 4) pa_nil)) (pa_cons (pe_call GN hr3 (by rfl) gN kN bN .nil pass0 (pa_cons (pv 4) pa_nil)) pa_nil)) (by rfl))
          (pss_cons (ps_lock (ps_for PassesOwn.never rfl (pi_keys (pv 6)) (pg_name (i := 7) scLaw.nd rfl (.inl rfl))
            (pss_one (ps_if (pt_cmpR op_ne (pe_callB repr_bl (by rfl) mp (by decide +kernel) (pa_cons (pe_call GI hr4 (by rfl) gI kI bI .nil pass0 (pa_cons (pv 5) (pa_cons (pv 7) pa_nil))) pa_nil)) (pe_callB repr_bl (by rfl) mp (by decide +kernel) (pa_cons (pe_dget (hu_of hr) (pv 6) (pv 7) (fun _ _ => rfl)) pa_nil)) (nomark _)) (pss_one (ps_ret pe_bl)) pss_nil))))
          (pss_cons (ps_set (i := 8) scLaw.nd rfl (.inl rfl) (pe_op op_sub (pe_op op_add (pe_op op_mul pe_int (pe_ix ix_tup (pv 4) pe_int (fun _ _ => rfl))) (pe_ix ix_tup (pv 4) pe_int (fun _ _ => rfl))) pe_int))
          (pss_cons (ps_set (i := 7) scLaw.nd rfl (.inl rfl) (pe_call GX hr3 (by rfl) gX kX bX .nil pass0 (pa_cons (pv 2) (pa_cons (pe_ix ix_tup (pv 4) pe_int (fun _ _ => rfl)) (pa_cons (pe_op op_add (pv 8) (pe_call GT hr1 (by rfl) gT kT bT .nil pass0 (pa_cons (pv 2) (pa_cons pe_int pa_nil)))) pa_nil)))))
          (pss_cons (ps_set (i := 9) scLaw.nd rfl (.inl rfl) (pe_call GP hr3 (by rfl) gP kP bP .nil pass0 (pa_cons (pv 5) (pa_cons (pv 7) pa_nil))))
          (pss_one (ps_for PassesOwn.never rfl (pi_range1 (by rfl) mr (pa_cons (pe_op op_add (pe_op op_sub (pe_callB call_len_str (by rfl) ml PySem.boot_len (pa_cons (pv 7) pa_nil)) (pv 8)) pe_int) pa_nil)) (pg_name (i := 10) scLaw.nd rfl (.inl rfl))
            (pss_cons (ps_set (i := 11) scLaw.nd rfl (.inl rfl) (pe_op op_sub (pe_op op_add (pv 10) (pe_ix ix_tup (pv 4) pe_int (fun _ _ => rfl))) pe_int))
            (pss_one (ps_if (pt_cmpR op_ne (pe_call GI hr4 (by rfl) gI kI bI .nil pass0 (pa_cons (pv 5) (pa_cons (pe_slice sl_str (pv 7) (po_some (pv 10)) (po_some (pe_op op_add (pv 10) (pv 8)))) pa_nil))) (pe_cmpR op_in_seq (pv 11) (pv 9) (by rfl)) (nomark _)) (pss_one (ps_ret pe_bl)) pss_nil)))))))))))))))
      (pss_one (ps_ret pe_bl)), ?_⟩
    refine ⟨_, rfl, a, _, rfl, .inl hS, _, _, rfl, _, _, rfl, _, rfl, ?_, ?_, ?_⟩
    · split <;> (try split) <;> omega
    · split <;> (try split) <;> omega
    refine for_range (lo := 0) (fun i σ H' => ∃ y1 y2 y3 y4 y5 y6 y7 y8 y9 y10 y11, σ = [some (.ref a), y1, y2, y3, y4, y5, y6, y7, y8, y9, y10, y11] ∧ Same H H') ⟨none, none, none, none, none, none, none, none, none, none, none, rfl, Same.refl H⟩ ?_ ?_
    · rintro kk σ H1 _ ⟨y1, y2, y3, y4, y5, y6, y7, y8, y9, y10, y11, rfl, s1⟩
      refine ⟨_, rfl, _, rfl, a, ns, kk, 15, ?_, s1.seq hS, hlen, fun H2 b s2 nb0 hb0 => ⟨2, rfl, by decide, by decide, for_range (lo := 0) (n := 2) (fun i σ H' => ∃ y3 y4 y5 y6 y7 y8 y9 y10 y11, σ = [some (.ref a), some (.int (0 + (kk : Int))), some (.ref b), y3, y4, y5, y6, y7, y8, y9, y10, y11] ∧ Same H H' ∧ Box H' b)
        ⟨y3, y4, y5, y6, y7, y8, y9, y10, y11, rfl, s1.trans s2, hb0⟩ ?_ ?_⟩⟩
      · show [V.ref a, V.int (0 + (kk : Int)), V.int 15] = _
        rw [Int.zero_add]
        rfl
      have nb : H b = none := s1.free nb0
      · rintro i σ H1 hi ⟨y3, y4, y5, y6, y7, y8, y9, y10, y11, rfl, s1, hb1⟩
        refine ⟨_, rfl, b, 256, rfl, hb1, by decide, ?_⟩
        intro H2 d p s w k tb b2 hb2 np hD ok ht
        have db := tup_ne hb2 hD.1
        obtain ⟨ok1, ok2, ok3, ok4, ok5, ok6⟩ := id ok
        refine ⟨_, rfl, d, p, s, w, k, tb, rfl, hD, ok, ht, fun H3 x s3 hR3 => ?_⟩
        refine ⟨_, rfl, d, p, s, w, k, tb, rfl, hD.same s3, ok, ht.1, fun H4 m s4 nm hm => ⟨_, _, rfl, ?_⟩⟩
        have hb4 := (hb2.same s3).same s4
        have hd4 := s4 _ _ (s3 _ _ hD.1)
        have hR4 := hR3.same s4
        have b4 : But b H1 H4 := (b2.same s3).same s4
        have := pow_amid ok
        -- all texts around a place
        refine ⟨m, _, hm, trivial, fun od => ?_⟩
        refine ⟨_, rfl, m, od, rfl, .inl ⟨_, upd_same, for_it walk_keys (fun i' σ H' => ∃ y7, σ = [some (.ref a), some (.int (0 + (kk : Int))), some (.ref b), some (.int (0 + (i : Int))), some (.ref d), some (.ref x), some (.ref m), y7, y8, y9, y10, y11] ∧ Same (upd H4 m (.frz od (.dK ((allT s (2 * w + k - 2)).map (ent s w k tb))))) H')
          ⟨_, rfl, Same.refl _⟩ (fun _ _ _ _ ⟨_, _, e⟩ => e _ _ upd_same) ?_ ?_⟩⟩
        · rintro j y σ H5 H5' hj ⟨y7, rfl, s5⟩ ⟨rfl, key, v, hkv, rfl⟩
          obtain ⟨ds, hds, hkv2⟩ : ∃ ds, (allT s (2 * w + k - 2))[j]? = some ds ∧ (key, v) = ent s w k tb ds := by
            rw [List.getElem?_map] at hkv
            cases e : (allT s (2 * w + k - 2))[j]? with
            | none =>
              rw [e] at hkv
              cases hkv
            | some ds =>
              rw [e] at hkv
              exact ⟨ds, rfl, (Option.some.inj hkv).symm⟩
          obtain ⟨rfl, rfl⟩ := Prod.mk.inj hkv2
          obtain ⟨hl, hg⟩ := (allT_mem s _ ds).mp (List.mem_of_getElem? hds)
          have hR5 := (hR4.lock (o := .frz od (.dK ((allT s (2 * w + k - 2)).map (ent s w k tb)))) hm).same s5
          refine ⟨_, rfl, _, rfl, x, s, w, k, tb, ds, rfl, hR5, ok.g, ht.1, by omega, hg, fun H6 s6 => ⟨_, rfl, _, rfl, _, rfl, m, _, rfl, .inl ⟨_, Sum.inr (tx ds), .inr ⟨od, s6 _ _ (s5 _ _ upd_same)⟩, rfl, (valV_ent (List.mem_of_getElem? hds)).symm⟩, _, rfl, rfl, _, rfl, iteNS rfl ?_⟩⟩
          exact ⟨_, rfl, s5.trans s6⟩
        · rintro σ H5 ⟨y7, rfl, s5⟩
          refine ⟨s5 _ _ upd_same, ?_⟩
          have s45 := lock_same hm s5
          generalize upd H5 m (.dK ((allT s (2 * w + k - 2)).map (ent s w k tb))) = H6 at s45 ⊢
          have hb6 := hb4.same s45
          have hR6 := hR4.same s45
          have hT : SqT K H6 d [iv s, iv w, iv k, .ref p] := SqT.of (s45 _ _ hd4)
          refine ⟨_, rfl, d, _, _, _, rfl, rfl, hT, atI_nat (j := 1) rfl, _, _, rfl, rfl, .inl ⟨by decide, by decide⟩, _, rfl, d, _, _, _, rfl, rfl, hT, atI_nat (j := 2) rfl, _, _, rfl, rfl, _, _, rfl, rfl, ?_⟩
          refine ⟨_, rfl, _, rfl, d, _, _, _, rfl, rfl, hT, atI_nat (j := 0) rfl, _, rfl, _, rfl, b, 30, rfl, hb6, by decide, by decide, fun H7 r r0 r1 b7 hb7 => ⟨_, _, rfl, rfl, b, s, 2 * w + k - 2 + r.toNat, ?_, hb7, ok1, by omega, fun H8 ds b8 hb8 hl hg => ?_⟩⟩
          · show [V.ref b, V.int (s : Nat), V.int (2 * (w : Int) + (k : Int) - 2 + r)] = _
            rw [show 2 * (w : Int) + (k : Int) - 2 + r = ((2 * w + k - 2 + r.toNat : Nat) : Int) by omega]
          have hd8 := b8 _ _ (b7 _ _ (s45 _ _ hd4) db) db
          have hR8 : RuleAt C H8 x s w k tb := (hR6.but hb6 b7).but hb7 b8
          have hz : (tx ds).length ≤ sizeLine := by rw [tx_len]; exact Nat.le_of_lt (big_size (by omega))
          refine ⟨_, rfl, _, rfl, x, s, w, k, tb, ds, rfl, hR8, ok.g, ht.1, by omega, hg, fun H9 t ms s9 nt ht9 hp => ?_⟩
          have b49 : But b H1 H9 := (((b4.same s45).trans b7).trans b8).same s9
          refine ⟨_, rfl, tx ds, rfl, hz, _, rfl, _, _, rfl, rfl, _, _, rfl, rfl, _, rfl, ?_, ?_, for_range (lo := 0) (fun j σ H' => ∃ y10 y11, σ = [some (.ref a), some (.int (0 + (kk : Int))), some (.ref b), some (.int (0 + (i : Int))), some (.ref d), some (.ref x), some (.ref m), some (tv ds), some (.int (2 * (w : Int) + (k : Int) - 2)), some (.ref t), y10, y11] ∧ Same H9 H')
            ⟨_, _, rfl, Same.refl H9⟩ ?_ ?_⟩
          · rw [tx_len]
            omega
          · rw [tx_len]
            omega
          · rintro j σ H10 hj ⟨y10, y11, rfl, s10⟩
            rw [tx_len] at hj
            have hj2 : j + (2 * w + k - 2) ≤ ds.length := by omega
            obtain ⟨g1, g2⟩ := win_ok (s := s) (n := 2 * w + k - 2) (j := j) (ds := ds) hj2 hg
            have hd10 := s10 _ _ (s9 _ _ hd8)
            refine ⟨_, rfl, _, rfl, d, _, _, _, rfl, rfl, SqT.of hd10, atI_nat (j := 1) rfl, _, _, rfl, rfl, _, _, rfl, rfl, ?_⟩
            refine ⟨_, rfl, _, rfl, _, rfl, _, rfl, _, rfl, _, rfl, _, _, rfl, rfl, _, rfl, tx ds, rfl, hz, x, s, w, k, tb, (ds.drop j).take (2 * w + k - 2), ?_, (hR8.same s9).same s10, ok.g, ht.1, by omega, g2, fun H11 s11 => ?_⟩
            · show [V.ref x, V.str (cutS (tx ds) (some (0 + (j : Int))) (some (0 + (j : Int) + (2 * (w : Int) + (k : Int) - 2))))] = _
              rw [Int.zero_add, show (j : Int) + (2 * (w : Int) + (k : Int) - 2) = ((j + (2 * w + k - 2) : Nat) : Int) by omega, cut_mid, Nat.add_sub_cancel_left]
            refine ⟨_, rfl, _, rfl, t, _, rfl, .inr (SqT.of (s11 _ _ (s10 _ _ ht9))), rfl, flat_ints ms, rfl, _, rfl, iteNS ?_ ⟨_, _, rfl, s10.trans s11⟩⟩
            show V.bl _ = V.bl (inV (V.int (0 + (j : Int) + (w : Int) - 1)) (ms.map V.int))
            rw [in_places hp (j + w - 1) (by omega), pkd_amid ok2 ok4 ht hg hj2]
          · rintro σ H10 ⟨y10, y11, rfl, s10⟩
            exact ⟨_, _, _, _, _, _, _, _, _, rfl, same_but s1 nb (b49.same s10), ((hb8.same s9)).same s10⟩
      · rintro σ H1 ⟨y3, y4, y5, y6, y7, y8, y9, y10, y11, rfl, s1, hb1⟩
        exact ⟨_, _, _, _, _, _, _, _, _, _, _, rfl, s1⟩
    · rintro σ H1 ⟨y1, y2, y3, y4, y5, y6, y7, y8, y9, y10, y11, rfl, s1⟩
      exact q H1
end
end WP
namespace WP
open PySem L2
/-! ### what the top has written, and the law's own head -/

theorem all_mk {l : PySem.W.OpenLaw} {w : World} {K : PySem.W.Frag} {h : Heap} {mg : Str → Option Value} {fa C : Addr} {tA : Tok}
    {oc_Bx kV_Bx dc_Bx pm_Bx cd_Bx ct_Bx oc_T kV_T dc_T pm_T cd_T ct_T oc_P kV_P dc_P pm_P cd_P ct_P oc_M kV_M dc_M pm_M cd_M ct_M oc_X kV_X dc_X pm_X cd_X ct_X oc_W kV_W dc_W pm_W cd_W ct_W oc_Sh kV_Sh dc_Sh pm_Sh cd_Sh ct_Sh oc_S kV_S dc_S pm_S cd_S ct_S oc_Fi kV_Fi dc_Fi pm_Fi cd_Fi ct_Fi oc_B kV_B dc_B pm_B cd_B ct_B oc_Tb kV_Tb dc_Tb pm_Tb cd_Tb ct_Tb oc_R kV_R dc_R pm_R cd_R ct_R oc_Ig kV_Ig dc_Ig pm_Ig cd_Ig ct_Ig oc_Bt kV_Bt dc_Bt pm_Bt cd_Bt ct_Bt oc_Sq kV_Sq dc_Sq pm_Sq cd_Sq ct_Sq oc_N kV_N dc_N pm_N cd_N ct_N oc_Nu kV_Nu dc_Nu pm_Nu cd_Nu ct_Nu oc_C kV_C dc_C pm_C cd_C ct_C oc_Z kV_Z dc_Z pm_Z cd_Z ct_Z oc_It kV_It dc_It pm_It cd_It ct_It oc_Ro kV_Ro dc_Ro pm_Ro cd_Ro ct_Ro oc_Sp kV_Sp dc_Sp pm_Sp cd_Sp ct_Sp oc_La kV_La dc_La pm_La cd_La ct_La oc_Pk kV_Pk dc_Pk pm_Pk cd_Pk ct_Pk oc_Ip kV_Ip dc_Ip pm_Ip cd_Ip ct_Ip oc_Tx kV_Tx dc_Tx pm_Tx cd_Tx ct_Tx oc_Pl kV_Pl dc_Pl pm_Pl cd_Pl ct_Pl oc_Kn kV_Kn dc_Kn pm_Kn cd_Kn ct_Kn oc_I kV_I dc_I pm_I cd_I ct_I oc_Of kV_Of dc_Of pm_Of cd_Of ct_Of : Value}
    {od_Bx an_Bx od_T an_T od_P an_P od_M an_M od_X an_X od_W an_W od_Sh an_Sh od_S an_S od_Fi an_Fi od_B an_B od_Tb an_Tb od_R an_R od_Ig an_Ig od_Bt an_Bt od_Sq an_Sq od_N an_N od_Nu an_Nu od_C an_C od_Z an_Z od_It an_It od_Ro an_Ro od_Sp an_Sp od_La an_La od_Pk an_Pk od_Ip an_Ip od_Tx an_Tx od_Pl an_Pl od_Kn an_Kn od_I an_I od_Of an_Of : Option Addr}
    {sl_Bx sl_T sl_P sl_M sl_X sl_W sl_Sh sl_S sl_Fi sl_B sl_Tb sl_R sl_Ig sl_Bt sl_Sq sl_N sl_Nu sl_C sl_Z sl_It sl_Ro sl_Sp sl_La sl_Pk sl_Ip sl_Tx sl_Pl sl_Kn sl_I sl_Of : Array (Option Value)}
    {f_Bx f_T f_P f_M f_X f_W f_Sh f_S f_Fi f_B f_Tb f_R f_Ig f_Bt f_Sq f_N f_Nu f_C f_Z f_It f_Ro f_Sp f_La f_Pk f_Ip f_Tx f_Pl f_Kn f_I f_Of : Addr}
    (KX : K.In h) (NS : h.Ns mainGlobals mg) (hfa : mg "law" = some (.ref fa))
    (aC : PySem.W.nsIn K mainGlobals "Rule" = some (some (.ref C)))
    (aA : PySem.W.nsIn K mainGlobals "ALPHABET" = some (some (.str "abcd" tA)))
    (a_Bx : PySem.W.nsIn K mainGlobals "_law_box" = some (some (.ref f_Bx)))
    (l_Bx : K.lookup f_Bx = some ⟨oc_Bx, od_Bx, .func (PySem.W.fnOf "_law_box" "_law_box" (defArgs s_box) (defBody s_box) (defScope s_box) .none kV_Bx dc_Bx pm_Bx an_Bx cd_Bx ct_Bx), sl_Bx⟩)
    (c_Bx : PySem.W.codeIn K cd_Bx "_law_box" = true)
    (k_Bx : PySem.W.keepIn K (.ref f_Bx) = true)
    (a_T : PySem.W.nsIn K mainGlobals "_law_take" = some (some (.ref f_T)))
    (l_T : K.lookup f_T = some ⟨oc_T, od_T, .func (PySem.W.fnOf "_law_take" "_law_take" (defArgs s_take) (defBody s_take) (defScope s_take) .none kV_T dc_T pm_T an_T cd_T ct_T), sl_T⟩)
    (c_T : PySem.W.codeIn K cd_T "_law_take" = true)
    (k_T : PySem.W.keepIn K (.ref f_T) = true)
    (a_P : PySem.W.nsIn K mainGlobals "_law_pick" = some (some (.ref f_P)))
    (l_P : K.lookup f_P = some ⟨oc_P, od_P, .func (PySem.W.fnOf "_law_pick" "_law_pick" (defArgs s_pick) (defBody s_pick) (defScope s_pick) .none kV_P dc_P pm_P an_P cd_P ct_P), sl_P⟩)
    (c_P : PySem.W.codeIn K cd_P "_law_pick" = true)
    (k_P : PySem.W.keepIn K (.ref f_P) = true)
    (a_M : PySem.W.nsIn K mainGlobals "_law_mixed" = some (some (.ref f_M)))
    (l_M : K.lookup f_M = some ⟨oc_M, od_M, .func (PySem.W.fnOf "_law_mixed" "_law_mixed" (defArgs s_mixed) (defBody s_mixed) (defScope s_mixed) .none kV_M dc_M pm_M an_M cd_M ct_M), sl_M⟩)
    (c_M : PySem.W.codeIn K cd_M "_law_mixed" = true)
    (k_M : PySem.W.keepIn K (.ref f_M) = true)
    (a_X : PySem.W.nsIn K mainGlobals "_law_texts" = some (some (.ref f_X)))
    (l_X : K.lookup f_X = some ⟨oc_X, od_X, .func (PySem.W.fnOf "_law_texts" "_law_texts" (defArgs s_texts) (defBody s_texts) (defScope s_texts) .none kV_X dc_X pm_X an_X cd_X ct_X), sl_X⟩)
    (c_X : PySem.W.codeIn K cd_X "_law_texts" = true)
    (k_X : PySem.W.keepIn K (.ref f_X) = true)
    (a_W : PySem.W.nsIn K mainGlobals "_law_power" = some (some (.ref f_W)))
    (l_W : K.lookup f_W = some ⟨oc_W, od_W, .func (PySem.W.fnOf "_law_power" "_law_power" (defArgs s_power) (defBody s_power) (defScope s_power) .none kV_W dc_W pm_W an_W cd_W ct_W), sl_W⟩)
    (c_W : PySem.W.codeIn K cd_W "_law_power" = true)
    (k_W : PySem.W.keepIn K (.ref f_W) = true)
    (a_Sh : PySem.W.nsIn K mainGlobals "_law_shapes" = some (some (.ref f_Sh)))
    (l_Sh : K.lookup f_Sh = some ⟨oc_Sh, od_Sh, .func (PySem.W.fnOf "_law_shapes" "_law_shapes" (defArgs s_shapes) (defBody s_shapes) (defScope s_shapes) .none kV_Sh dc_Sh pm_Sh an_Sh cd_Sh ct_Sh), sl_Sh⟩)
    (c_Sh : PySem.W.codeIn K cd_Sh "_law_shapes" = true)
    (k_Sh : PySem.W.keepIn K (.ref f_Sh) = true)
    (a_S : PySem.W.nsIn K mainGlobals "_law_shape" = some (some (.ref f_S)))
    (l_S : K.lookup f_S = some ⟨oc_S, od_S, .func (PySem.W.fnOf "_law_shape" "_law_shape" (defArgs s_shape) (defBody s_shape) (defScope s_shape) .none kV_S dc_S pm_S an_S cd_S ct_S), sl_S⟩)
    (c_S : PySem.W.codeIn K cd_S "_law_shape" = true)
    (k_S : PySem.W.keepIn K (.ref f_S) = true)
    (a_Fi : PySem.W.nsIn K mainGlobals "_law_first" = some (some (.ref f_Fi)))
    (l_Fi : K.lookup f_Fi = some ⟨oc_Fi, od_Fi, .func (PySem.W.fnOf "_law_first" "_law_first" (defArgs s_first) (defBody s_first) (defScope s_first) .none kV_Fi dc_Fi pm_Fi an_Fi cd_Fi ct_Fi), sl_Fi⟩)
    (c_Fi : PySem.W.codeIn K cd_Fi "_law_first" = true)
    (k_Fi : PySem.W.keepIn K (.ref f_Fi) = true)
    (a_B : PySem.W.nsIn K mainGlobals "_law_by_order" = some (some (.ref f_B)))
    (l_B : K.lookup f_B = some ⟨oc_B, od_B, .func (PySem.W.fnOf "_law_by_order" "_law_by_order" (defArgs s_by_order) (defBody s_by_order) (defScope s_by_order) .none kV_B dc_B pm_B an_B cd_B ct_B), sl_B⟩)
    (c_B : PySem.W.codeIn K cd_B "_law_by_order" = true)
    (k_B : PySem.W.keepIn K (.ref f_B) = true)
    (a_Tb : PySem.W.nsIn K mainGlobals "_law_table" = some (some (.ref f_Tb)))
    (l_Tb : K.lookup f_Tb = some ⟨oc_Tb, od_Tb, .func (PySem.W.fnOf "_law_table" "_law_table" (defArgs s_table) (defBody s_table) (defScope s_table) .none kV_Tb dc_Tb pm_Tb an_Tb cd_Tb ct_Tb), sl_Tb⟩)
    (c_Tb : PySem.W.codeIn K cd_Tb "_law_table" = true)
    (k_Tb : PySem.W.keepIn K (.ref f_Tb) = true)
    (a_R : PySem.W.nsIn K mainGlobals "_law_rule" = some (some (.ref f_R)))
    (l_R : K.lookup f_R = some ⟨oc_R, od_R, .func (PySem.W.fnOf "_law_rule" "_law_rule" (defArgs s_rule) (defBody s_rule) (defScope s_rule) .none kV_R dc_R pm_R an_R cd_R ct_R), sl_R⟩)
    (c_R : PySem.W.codeIn K cd_R "_law_rule" = true)
    (k_R : PySem.W.keepIn K (.ref f_R) = true)
    (a_Ig : PySem.W.nsIn K mainGlobals "is_integer" = some (some (.ref f_Ig)))
    (l_Ig : K.lookup f_Ig = some ⟨oc_Ig, od_Ig, .func (PySem.W.fnOf "is_integer" "is_integer" (defArgs s_is_integer) (defBody s_is_integer) (defScope s_is_integer) .none kV_Ig dc_Ig pm_Ig an_Ig cd_Ig ct_Ig), sl_Ig⟩)
    (c_Ig : PySem.W.codeIn K cd_Ig "is_integer" = true)
    (k_Ig : PySem.W.keepIn K (.ref f_Ig) = true)
    (a_Bt : PySem.W.nsIn K mainGlobals "is_between" = some (some (.ref f_Bt)))
    (l_Bt : K.lookup f_Bt = some ⟨oc_Bt, od_Bt, .func (PySem.W.fnOf "is_between" "is_between" (defArgs s_is_between) (defBody s_is_between) (defScope s_is_between) .none kV_Bt dc_Bt pm_Bt an_Bt cd_Bt ct_Bt), sl_Bt⟩)
    (c_Bt : PySem.W.codeIn K cd_Bt "is_between" = true)
    (k_Bt : PySem.W.keepIn K (.ref f_Bt) = true)
    (a_Sq : PySem.W.nsIn K mainGlobals "is_sequence" = some (some (.ref f_Sq)))
    (l_Sq : K.lookup f_Sq = some ⟨oc_Sq, od_Sq, .func (PySem.W.fnOf "is_sequence" "is_sequence" (defArgs s_is_sequence) (defBody s_is_sequence) (defScope s_is_sequence) .none kV_Sq dc_Sq pm_Sq an_Sq cd_Sq ct_Sq), sl_Sq⟩)
    (c_Sq : PySem.W.codeIn K cd_Sq "is_sequence" = true)
    (k_Sq : PySem.W.keepIn K (.ref f_Sq) = true)
    (a_N : PySem.W.nsIn K mainGlobals "count_of" = some (some (.ref f_N)))
    (l_N : K.lookup f_N = some ⟨oc_N, od_N, .func (PySem.W.fnOf "count_of" "count_of" (defArgs s_count_of) (defBody s_count_of) (defScope s_count_of) .none kV_N dc_N pm_N an_N cd_N ct_N), sl_N⟩)
    (c_N : PySem.W.codeIn K cd_N "count_of" = true)
    (k_N : PySem.W.keepIn K (.ref f_N) = true)
    (a_Nu : PySem.W.nsIn K mainGlobals "number_of" = some (some (.ref f_Nu)))
    (l_Nu : K.lookup f_Nu = some ⟨oc_Nu, od_Nu, .func (PySem.W.fnOf "number_of" "number_of" (defArgs s_number_of) (defBody s_number_of) (defScope s_number_of) .none kV_Nu dc_Nu pm_Nu an_Nu cd_Nu ct_Nu), sl_Nu⟩)
    (c_Nu : PySem.W.codeIn K cd_Nu "number_of" = true)
    (k_Nu : PySem.W.keepIn K (.ref f_Nu) = true)
    (a_C : PySem.W.nsIn K mainGlobals "check_letters" = some (some (.ref f_C)))
    (l_C : K.lookup f_C = some ⟨oc_C, od_C, .func (PySem.W.fnOf "check_letters" "check_letters" (defArgs s_check_letters) (defBody s_check_letters) (defScope s_check_letters) .none kV_C dc_C pm_C an_C cd_C ct_C), sl_C⟩)
    (c_C : PySem.W.codeIn K cd_C "check_letters" = true)
    (k_C : PySem.W.keepIn K (.ref f_C) = true)
    (a_Z : PySem.W.nsIn K mainGlobals "_check_sizes" = some (some (.ref f_Z)))
    (l_Z : K.lookup f_Z = some ⟨oc_Z, od_Z, .func (PySem.W.fnOf "_check_sizes" "_check_sizes" (defArgs s_check_sizes) (defBody s_check_sizes) (defScope s_check_sizes) .none kV_Z dc_Z pm_Z an_Z cd_Z ct_Z), sl_Z⟩)
    (c_Z : PySem.W.codeIn K cd_Z "_check_sizes" = true)
    (k_Z : PySem.W.keepIn K (.ref f_Z) = true)
    (a_It : PySem.W.nsIn K mainGlobals "_is_table" = some (some (.ref f_It)))
    (l_It : K.lookup f_It = some ⟨oc_It, od_It, .func (PySem.W.fnOf "_is_table" "_is_table" (defArgs s_is_table) (defBody s_is_table) (defScope s_is_table) .none kV_It dc_It pm_It an_It cd_It ct_It), sl_It⟩)
    (c_It : PySem.W.codeIn K cd_It "_is_table" = true)
    (k_It : PySem.W.keepIn K (.ref f_It) = true)
    (a_Ro : PySem.W.nsIn K mainGlobals "_law_rule_of" = some (some (.ref f_Ro)))
    (l_Ro : K.lookup f_Ro = some ⟨oc_Ro, od_Ro, .func (PySem.W.fnOf "_law_rule_of" "_law_rule_of" (defArgs s_rule_of) (defBody s_rule_of) (defScope s_rule_of) .none kV_Ro dc_Ro pm_Ro an_Ro cd_Ro ct_Ro), sl_Ro⟩)
    (c_Ro : PySem.W.codeIn K cd_Ro "_law_rule_of" = true)
    (k_Ro : PySem.W.keepIn K (.ref f_Ro) = true)
    (a_Sp : PySem.W.nsIn K mainGlobals "_law_spot" = some (some (.ref f_Sp)))
    (l_Sp : K.lookup f_Sp = some ⟨oc_Sp, od_Sp, .func (PySem.W.fnOf "_law_spot" "_law_spot" (defArgs s_spot) (defBody s_spot) (defScope s_spot) .none kV_Sp dc_Sp pm_Sp an_Sp cd_Sp ct_Sp), sl_Sp⟩)
    (c_Sp : PySem.W.codeIn K cd_Sp "_law_spot" = true)
    (k_Sp : PySem.W.keepIn K (.ref f_Sp) = true)
    (a_La : PySem.W.nsIn K mainGlobals "law" = some (some (.ref f_La)))
    (l_La : K.lookup f_La = some ⟨oc_La, od_La, .func (PySem.W.fnOf "law" "law" (defArgs s_law) (defBody s_law) (defScope s_law) .none kV_La dc_La pm_La an_La cd_La ct_La), sl_La⟩)
    (c_La : PySem.W.codeIn K cd_La "law" = true)
    (k_La : PySem.W.keepIn K (.ref f_La) = true)
    (a_Pk : PySem.W.nsIn K mainGlobals "picks" = some (some (.ref f_Pk)))
    (l_Pk : K.lookup f_Pk = some ⟨oc_Pk, od_Pk, .func (PySem.W.fnOf "picks" "picks" (defArgs s_picks) (defBody s_picks) (defScope s_picks) .none kV_Pk dc_Pk pm_Pk an_Pk cd_Pk ct_Pk), sl_Pk⟩)
    (c_Pk : PySem.W.codeIn K cd_Pk "picks" = true)
    (k_Pk : PySem.W.keepIn K (.ref f_Pk) = true)
    (a_Ip : PySem.W.nsIn K mainGlobals "is_picked" = some (some (.ref f_Ip)))
    (l_Ip : K.lookup f_Ip = some ⟨oc_Ip, od_Ip, .func (PySem.W.fnOf "is_picked" "is_picked" (defArgs s_is_picked) (defBody s_is_picked) (defScope s_is_picked) .none kV_Ip dc_Ip pm_Ip an_Ip cd_Ip ct_Ip), sl_Ip⟩)
    (c_Ip : PySem.W.codeIn K cd_Ip "is_picked" = true)
    (k_Ip : PySem.W.keepIn K (.ref f_Ip) = true)
    (a_Tx : PySem.W.nsIn K mainGlobals "_law_text" = some (some (.ref f_Tx)))
    (l_Tx : K.lookup f_Tx = some ⟨oc_Tx, od_Tx, .func (PySem.W.fnOf "_law_text" "_law_text" (defArgs s_text) (defBody s_text) (defScope s_text) .none kV_Tx dc_Tx pm_Tx an_Tx cd_Tx ct_Tx), sl_Tx⟩)
    (c_Tx : PySem.W.codeIn K cd_Tx "_law_text" = true)
    (k_Tx : PySem.W.keepIn K (.ref f_Tx) = true)
    (a_Pl : PySem.W.nsIn K mainGlobals "_law_places" = some (some (.ref f_Pl)))
    (l_Pl : K.lookup f_Pl = some ⟨oc_Pl, od_Pl, .func (PySem.W.fnOf "_law_places" "_law_places" (defArgs s_places) (defBody s_places) (defScope s_places) .none kV_Pl dc_Pl pm_Pl an_Pl cd_Pl ct_Pl), sl_Pl⟩)
    (c_Pl : PySem.W.codeIn K cd_Pl "_law_places" = true)
    (k_Pl : PySem.W.keepIn K (.ref f_Pl) = true)
    (a_Kn : PySem.W.nsIn K mainGlobals "_law_known" = some (some (.ref f_Kn)))
    (l_Kn : K.lookup f_Kn = some ⟨oc_Kn, od_Kn, .func (PySem.W.fnOf "_law_known" "_law_known" (defArgs s_known) (defBody s_known) (defScope s_known) .none kV_Kn dc_Kn pm_Kn an_Kn cd_Kn ct_Kn), sl_Kn⟩)
    (c_Kn : PySem.W.codeIn K cd_Kn "_law_known" = true)
    (k_Kn : PySem.W.keepIn K (.ref f_Kn) = true)
    (a_I : PySem.W.findIn K (.ref C) "__init__" = some (some (.ref f_I)))
    (i_I : PySem.W.isFn K (.ref f_I) = true)
    (l_I : K.lookup f_I = some ⟨oc_I, od_I, .func (PySem.W.fnOf "__init__" "Rule.__init__" (defArgs s_init) (defBody s_init) (defScope s_init) .none kV_I dc_I pm_I an_I cd_I ct_I), sl_I⟩)
    (c_I : PySem.W.codeIn K cd_I "Rule.__init__" = true)
    (k_I : PySem.W.keepIn K (.ref f_I) = true)
    (a_Of : PySem.W.findIn K (.ref C) "offset" = some (some (.ref f_Of)))
    (i_Of : PySem.W.isFn K (.ref f_Of) = true)
    (l_Of : K.lookup f_Of = some ⟨oc_Of, od_Of, .func (PySem.W.fnOf "offset" "Rule.offset" (defArgs s_offset) (defBody s_offset) (defScope s_offset) .none kV_Of dc_Of pm_Of an_Of cd_Of ct_Of), sl_Of⟩)
    (c_Of : PySem.W.codeIn K cd_Of "Rule.offset" = true)
    (k_Of : PySem.W.keepIn K (.ref f_Of) = true)
    (pg : PySem.W.plainGet K C Str.empty = true)
    (hd : PySem.W.hasDictIn K C = true)
    (po : PySem.W.plainOver K C = true)
    (sa : PySem.W.findIn K (.ref C) "__setattr__" = some (some (.builtin "object.__setattr__")))
    (mk : PySem.W.makesIn K C = true)
    (kc : PySem.W.keepIn K (.ref C) = true)
    (n_letters : PySem.W.findIn K (.ref C) "letters" = some none)
    (n_w : PySem.W.findIn K (.ref C) "w" = some none)
    (n_k : PySem.W.findIn K (.ref C) "k" = some none)
    (n_table : PySem.W.findIn K (.ref C) "table" = some none)
    (z_len : PySem.W.nsIn K mainGlobals "len" = some none)
    (z_range : PySem.W.nsIn K mainGlobals "range" = some none)
    (z_max : PySem.W.nsIn K mainGlobals "max" = some none)
    (z_min : PySem.W.nsIn K mainGlobals "min" = some none)
    (z_repr : PySem.W.nsIn K mainGlobals "repr" = some none)
    (z_int : PySem.W.nsIn K mainGlobals "int" = some none)
    (z_abs : PySem.W.nsIn K mainGlobals "abs" = some none)
    (z_list : PySem.W.nsIn K mainGlobals "list" = some none)
    (z_tuple : PySem.W.nsIn K mainGlobals "tuple" = some none)
    (z_enumerate : PySem.W.nsIn K mainGlobals "enumerate" = some none)
    (z_isinstance : PySem.W.nsIn K mainGlobals "isinstance" = some none)
    (z_bool : PySem.W.nsIn K mainGlobals "bool" = some none)
    (z_str : PySem.W.nsIn K mainGlobals "str" = some none)
    (z_all : PySem.W.nsIn K mainGlobals "all" = some none)
    (z_set : PySem.W.nsIn K mainGlobals "set" = some none)
    (z_sorted : PySem.W.nsIn K mainGlobals "sorted" = some none) :
    ∃ fd : FuncData, (∀ (s : Shared) (v : Value), BindsTo s fd ⟨[v], []⟩ [("_law_script", v)]) ∧ ∀ base : Heap, K.In base → base.Ns mainGlobals mg → FnOk l.prog w K mg base CX0 7 fa fd ["_law_script"] (spLaw K) := by
  have efa := hfa.symm.trans (PySem.W.mg_of KX NS a_La)
  cases efa
  have T : RTxt K mg C := ⟨⟨pg, hd, po, sa⟩, n_letters, n_w, n_k, n_table, PySem.W.mg_of KX NS aC⟩
  have gA : ∃ u, mg "ALPHABET" = some u ∧ RelV (.str "abcd") u := ⟨_, PySem.W.mg_of KX NS aA, tA, rfl⟩
  have m_len : mg "len" = none := PySem.W.mg_none_of KX NS z_len
  have m_range : mg "range" = none := PySem.W.mg_none_of KX NS z_range
  have m_max : mg "max" = none := PySem.W.mg_none_of KX NS z_max
  have m_min : mg "min" = none := PySem.W.mg_none_of KX NS z_min
  have m_repr : mg "repr" = none := PySem.W.mg_none_of KX NS z_repr
  have m_int : mg "int" = none := PySem.W.mg_none_of KX NS z_int
  have m_abs : mg "abs" = none := PySem.W.mg_none_of KX NS z_abs
  have m_list : mg "list" = none := PySem.W.mg_none_of KX NS z_list
  have m_tuple : mg "tuple" = none := PySem.W.mg_none_of KX NS z_tuple
  have m_enumerate : mg "enumerate" = none := PySem.W.mg_none_of KX NS z_enumerate
  have m_isinstance : mg "isinstance" = none := PySem.W.mg_none_of KX NS z_isinstance
  have m_bool : mg "bool" = none := PySem.W.mg_none_of KX NS z_bool
  have m_str : mg "str" = none := PySem.W.mg_none_of KX NS z_str
  have m_all : mg "all" = none := PySem.W.mg_none_of KX NS z_all
  have m_set : mg "set" = none := PySem.W.mg_none_of KX NS z_set
  have m_sorted : mg "sorted" = none := PySem.W.mg_none_of KX NS z_sorted
  have F_Bx := fun_mk (st := s_box) l_Bx c_Bx k_Bx
  have b_Bx := F_Bx.binds (ps := ["_law_script", "_law_k", "_law_own"]) fun _ _ _ _ _ _ us hl => match us, hl with | [_, _, _], _ => rfl
  have g_Bx := PySem.W.mg_of KX NS a_Bx
  have F_T := fun_mk (st := s_take) l_T c_T k_T
  have b_T := F_T.binds (ps := ["_law_box_here", "_law_many"]) fun _ _ _ _ _ _ us hl => match us, hl with | [_, _], _ => rfl
  have g_T := PySem.W.mg_of KX NS a_T
  have F_P := fun_mk (st := s_pick) l_P c_P k_P
  have b_P := F_P.binds (ps := ["_law_box_here", "_law_items"]) fun _ _ _ _ _ _ us hl => match us, hl with | [_, _], _ => rfl
  have g_P := PySem.W.mg_of KX NS a_P
  have F_M := fun_mk (st := s_mixed) l_M c_M k_M
  have b_M := F_M.binds (ps := ["_law_box_here", "_law_items"]) fun _ _ _ _ _ _ us hl => match us, hl with | [_, _], _ => rfl
  have g_M := PySem.W.mg_of KX NS a_M
  have F_X := fun_mk (st := s_texts) l_X c_X k_X
  have b_X := F_X.binds (ps := ["_law_letters", "_law_size"]) fun _ _ _ _ _ _ us hl => match us, hl with | [_, _], _ => rfl
  have g_X := PySem.W.mg_of KX NS a_X
  have F_W := fun_mk (st := s_power) l_W c_W k_W
  have b_W := F_W.binds (ps := ["_law_base", "_law_many"]) fun _ _ _ _ _ _ us hl => match us, hl with | [_, _], _ => rfl
  have g_W := PySem.W.mg_of KX NS a_W
  have F_Sh := fun_mk (st := s_shapes) l_Sh c_Sh k_Sh
  have b_Sh := F_Sh.binds (ps := []) fun _ _ _ _ _ _ us hl => match us, hl with | [], _ => rfl
  have g_Sh := PySem.W.mg_of KX NS a_Sh
  have F_S := fun_mk (st := s_shape) l_S c_S k_S
  have b_S := F_S.binds (ps := ["_law_box_here", "_law_most"]) fun _ _ _ _ _ _ us hl => match us, hl with | [_, _], _ => rfl
  have g_S := PySem.W.mg_of KX NS a_S
  have F_Fi := fun_mk (st := s_first) l_Fi c_Fi k_Fi
  have b_Fi := F_Fi.binds (ps := ["_law_shape_here", "_law_order", "_law_is_last", "_law_window"]) fun _ _ _ _ _ _ us hl => match us, hl with | [_, _, _, _], _ => rfl
  have g_Fi := PySem.W.mg_of KX NS a_Fi
  have F_B := fun_mk (st := s_by_order) l_B c_B k_B
  have b_B := F_B.binds (ps := ["_law_shape_here", "_law_order", "_law_is_last"]) fun _ _ _ _ _ _ us hl => match us, hl with | [_, _, _], _ => rfl
  have g_B := PySem.W.mg_of KX NS a_B
  have F_Tb := fun_mk (st := s_table) l_Tb c_Tb k_Tb
  have b_Tb := F_Tb.binds (ps := ["_law_box_here", "_law_shape_here"]) fun _ _ _ _ _ _ us hl => match us, hl with | [_, _], _ => rfl
  have g_Tb := PySem.W.mg_of KX NS a_Tb
  have F_R := fun_mk (st := s_rule) l_R c_R k_R
  have b_R := F_R.binds (ps := ["_law_box_here", "_law_most"]) fun _ _ _ _ _ _ us hl => match us, hl with | [_, _], _ => rfl
  have g_R := PySem.W.mg_of KX NS a_R
  have F_Ig := fun_mk (st := s_is_integer) l_Ig c_Ig k_Ig
  have b_Ig := F_Ig.binds (ps := ["value"]) fun _ _ _ _ _ _ us hl => match us, hl with | [_], _ => rfl
  have g_Ig := PySem.W.mg_of KX NS a_Ig
  have F_Bt := fun_mk (st := s_is_between) l_Bt c_Bt k_Bt
  have b_Bt := F_Bt.binds (ps := ["value", "low", "high"]) fun _ _ _ _ _ _ us hl => match us, hl with | [_, _, _], _ => rfl
  have g_Bt := PySem.W.mg_of KX NS a_Bt
  have F_Sq := fun_mk (st := s_is_sequence) l_Sq c_Sq k_Sq
  have b_Sq := F_Sq.binds (ps := ["value"]) fun _ _ _ _ _ _ us hl => match us, hl with | [_], _ => rfl
  have g_Sq := PySem.W.mg_of KX NS a_Sq
  have F_N := fun_mk (st := s_count_of) l_N c_N k_N
  have b_N := F_N.binds (ps := ["letters", "length"]) fun _ _ _ _ _ _ us hl => match us, hl with | [_, _], _ => rfl
  have g_N := PySem.W.mg_of KX NS a_N
  have F_Nu := fun_mk (st := s_number_of) l_Nu c_Nu k_Nu
  have b_Nu := F_Nu.binds (ps := ["letters", "text"]) fun _ _ _ _ _ _ us hl => match us, hl with | [_, _], _ => rfl
  have g_Nu := PySem.W.mg_of KX NS a_Nu
  have F_C := fun_mk (st := s_check_letters) l_C c_C k_C
  have b_C := F_C.binds (ps := ["letters", "text"]) fun _ _ _ _ _ _ us hl => match us, hl with | [_, _], _ => rfl
  have g_C := PySem.W.mg_of KX NS a_C
  have F_Z := fun_mk (st := s_check_sizes) l_Z c_Z k_Z
  have b_Z := F_Z.binds (ps := ["letters", "w", "k"]) fun _ _ _ _ _ _ us hl => match us, hl with | [_, _, _], _ => rfl
  have g_Z := PySem.W.mg_of KX NS a_Z
  have F_It := fun_mk (st := s_is_table) l_It c_It k_It
  have b_It := F_It.binds (ps := ["letters", "w", "k", "table"]) fun _ _ _ _ _ _ us hl => match us, hl with | [_, _, _, _], _ => rfl
  have g_It := PySem.W.mg_of KX NS a_It
  have F_Ro := fun_mk (st := s_rule_of) l_Ro c_Ro k_Ro
  have b_Ro := F_Ro.binds (ps := ["_law_drawn"]) fun _ _ _ _ _ _ us hl => match us, hl with | [_], _ => rfl
  have g_Ro := PySem.W.mg_of KX NS a_Ro
  have F_Sp := fun_mk (st := s_spot) l_Sp c_Sp k_Sp
  have b_Sp := F_Sp.binds (ps := ["_law_drawn", "_law_window"]) fun _ _ _ _ _ _ us hl => match us, hl with | [_, _], _ => rfl
  have g_Sp := PySem.W.mg_of KX NS a_Sp
  have F_La := fun_mk (st := s_law) l_La c_La k_La
  have F_Pk := fun_mk (st := s_picks) l_Pk c_Pk k_Pk
  have b_Pk := F_Pk.binds (ps := ["rule", "text"]) fun _ _ _ _ _ _ us hl => match us, hl with | [_, _], _ => rfl
  have g_Pk := PySem.W.mg_of KX NS a_Pk
  have F_Ip := fun_mk (st := s_is_picked) l_Ip c_Ip k_Ip
  have b_Ip := F_Ip.binds (ps := ["rule", "around"]) fun _ _ _ _ _ _ us hl => match us, hl with | [_, _], _ => rfl
  have g_Ip := PySem.W.mg_of KX NS a_Ip
  have F_Tx := fun_mk (st := s_text) l_Tx c_Tx k_Tx
  have b_Tx := F_Tx.binds (ps := ["_law_box_here", "_law_letters", "_law_many"]) fun _ _ _ _ _ _ us hl => match us, hl with | [_, _, _], _ => rfl
  have g_Tx := PySem.W.mg_of KX NS a_Tx
  have F_Pl := fun_mk (st := s_places) l_Pl c_Pl k_Pl
  have b_Pl := F_Pl.binds (ps := ["_law_drawn", "_law_told"]) fun _ _ _ _ _ _ us hl => match us, hl with | [_, _], _ => rfl
  have g_Pl := PySem.W.mg_of KX NS a_Pl
  have F_Kn := fun_mk (st := s_known) l_Kn c_Kn k_Kn
  have b_Kn := F_Kn.binds (ps := ["_law_drawn"]) fun _ _ _ _ _ _ us hl => match us, hl with | [_], _ => rfl
  have g_Kn := PySem.W.mg_of KX NS a_Kn
  have F_I := fun_mk (st := s_init) l_I c_I k_I
  have b_I := F_I.binds (ps := ["self", "letters", "w", "k", "table"]) fun _ _ _ _ _ _ us hl => match us, hl with | [_, _, _, _, _], _ => rfl
  have F_Of := fun_mk (st := s_offset) l_Of c_Of k_Of
  have b_Of := F_Of.binds (ps := ["self", "window"]) fun _ _ _ _ _ _ us hl => match us, hl with | [_, _], _ => rfl
  have mOf : Meth K C "offset" f_Of := ⟨a_Of, i_Of, k_Of⟩
  have M : Mk K C f_I := ⟨mk, a_I, i_I, kc⟩
  refine ⟨PySem.W.fnOf "law" "law" (defArgs s_law) (defBody s_law) (defScope s_law) .none kV_La dc_La pm_La an_La cd_La ct_La, fun s v => .of_eq rfl, fun base _ _ => ?_⟩
  have G_T := ok_take (P := l.prog) (w := w) (base := base) F_T m_int
  have G_Bx := ok_box (P := l.prog) (w := w) (base := base) F_Bx m_int m_len m_abs
  have G_P := ok_pick (P := l.prog) (w := w) (base := base) F_P F_T b_T g_T m_int m_len
  have G_M := ok_mixed (P := l.prog) (w := w) (base := base) F_M F_T b_T g_T m_int m_len m_list m_range
  have G_X := ok_texts (P := l.prog) (w := w) (base := base) F_X m_range
  have G_W := ok_power (P := l.prog) (w := w) (base := base) F_W m_range
  have G_Sh := ok_shapes (P := l.prog) (w := w) (mg := mg) (base := base) F_Sh
  have G_S := ok_shape F_S G_P F_P.kp b_P g_P G_Sh F_Sh.kp b_Sh g_Sh G_W F_W.kp b_W g_W
  have G_Fi := ok_first (P := l.prog) (w := w) (base := base) F_Fi m_range m_enumerate
  have G_B := ok_by F_B G_X F_X.kp b_X g_X G_Fi F_Fi.kp b_Fi g_Fi
  have G_Tb := ok_table F_Tb m_len G_T F_T.kp b_T g_T G_X F_X.kp b_X g_X G_B F_B.kp b_B g_B G_M F_M.kp b_M g_M
  have G_R := ok_rule F_R G_S F_S.kp b_S g_S G_Tb F_Tb.kp b_Tb g_Tb
  have G_Ig := ok_integer (P := l.prog) (w := w) (base := base) F_Ig m_isinstance m_int m_bool
  have G_Bt := ok_between (P := l.prog) (w := w) (base := base) F_Bt G_Ig F_Ig.kp b_Ig g_Ig
  have G_Sq := ok_seq (P := l.prog) (w := w) (base := base) F_Sq m_isinstance m_list m_tuple
  have G_N := ok_count (P := l.prog) (w := w) (base := base) F_N m_range
  have G_Nu := ok_number (P := l.prog) (w := w) (base := base) F_Nu gA
  have G_C := ok_check (P := l.prog) (w := w) (base := base) F_C m_isinstance m_str m_enumerate gA
  have G_Z := ok_sizes F_Z G_Bt F_Bt.kp b_Bt g_Bt
  have G_It := ok_is_table F_It m_len m_all G_Bt F_Bt.kp b_Bt g_Bt G_Sq F_Sq.kp b_Sq g_Sq G_N F_N.kp b_N g_N
  have G_I := ok_init F_I T m_tuple G_Z F_Z.kp b_Z g_Z G_It F_It.kp b_It g_It
  have G_Of := ok_offset F_Of T m_isinstance m_str m_len G_C F_C.kp b_C g_C G_Nu F_Nu.kp b_Nu g_Nu
  have G_Ro := ok_rule_of F_Ro T M G_I b_I
  have G_Sp := ok_spot (P := l.prog) (w := w) (mg := mg) (base := base) F_Sp
  have G_Pk := ok_picksV F_Pk T m_len m_range m_tuple m_sorted m_set G_C F_C.kp b_C g_C G_Of mOf b_Of
  have G_Ip := ok_is_pickedV F_Ip T G_Pk F_Pk.kp b_Pk g_Pk
  have G_PS := ok_pickS F_P m_len G_T F_T.kp b_T g_T
  have G_Tx := ok_text F_Tx m_range G_PS F_P.kp b_P g_P
  have G_Pl := ok_places F_Pl m_len m_range m_int m_sorted G_Sp F_Sp.kp b_Sp g_Sp
  have G_Kn := ok_known F_Kn G_X F_X.kp b_X g_X G_Pl F_Pl.kp b_Pl g_Pl
  exact ok_law F_La m_len m_range m_max m_min m_repr T G_Bx F_Bx.kp b_Bx g_Bx G_T F_T.kp b_T g_T G_Tx F_Tx.kp b_Tx g_Tx G_R F_R.kp b_R g_R G_Ro F_Ro.kp b_Ro g_Ro G_Kn F_Kn.kp b_Kn g_Kn G_Ip F_Ip.kp b_Ip g_Ip G_Pk F_Pk.kp b_Pk g_Pk
end WP
open PySem PySem.W PyProof.Rows
set_option maxRecDepth 100000 in
set_option maxHeartbeats 0 in
theorem PySem.Challenge.cw_windowpicks_k15_places_by_their_surround_holds : PySem.Challenge.rw_windowpicks_k15_places_by_their_surround.Holds := by
  w_on; o_law; k_head; (case hw => w_witness2)
  k_fill
  refine L2.walk_of (l := PySem.Challenge.rw_windowpicks_k15_places_by_their_surround) (n := 63) (k := 7) (x := "_law_script") (CX := fun _ => L2.CX0) (sp := fun w => WP.spLaw _) rfl (by decide) rfl ⟨rfl, by decide, by decide⟩ (fun w h Y => PySem.W.kIn_of Y) ?FF (fun _ _ a ns hl _ hS => ⟨a, ns, rfl, hS, hl, fun _ => rfl⟩) (fun _ _ _ _ _ h => h)
  case FF =>
    intro w mg fa h KX NS hmg
    refine' WP.all_mk KX NS hmg ?aC ?aA ?a_Bx ?l_Bx ?c_Bx ?k_Bx ?a_T ?l_T ?c_T ?k_T ?a_P ?l_P ?c_P ?k_P ?a_M ?l_M ?c_M ?k_M ?a_X ?l_X ?c_X ?k_X ?a_W ?l_W ?c_W ?k_W ?a_Sh ?l_Sh ?c_Sh ?k_Sh ?a_S ?l_S ?c_S ?k_S ?a_Fi ?l_Fi ?c_Fi ?k_Fi ?a_B ?l_B ?c_B ?k_B ?a_Tb ?l_Tb ?c_Tb ?k_Tb ?a_R ?l_R ?c_R ?k_R ?a_Ig ?l_Ig ?c_Ig ?k_Ig ?a_Bt ?l_Bt ?c_Bt ?k_Bt ?a_Sq ?l_Sq ?c_Sq ?k_Sq ?a_N ?l_N ?c_N ?k_N ?a_Nu ?l_Nu ?c_Nu ?k_Nu ?a_C ?l_C ?c_C ?k_C ?a_Z ?l_Z ?c_Z ?k_Z ?a_It ?l_It ?c_It ?k_It ?a_Ro ?l_Ro ?c_Ro ?k_Ro ?a_Sp ?l_Sp ?c_Sp ?k_Sp ?a_La ?l_La ?c_La ?k_La ?a_Pk ?l_Pk ?c_Pk ?k_Pk ?a_Ip ?l_Ip ?c_Ip ?k_Ip ?a_Tx ?l_Tx ?c_Tx ?k_Tx ?a_Pl ?l_Pl ?c_Pl ?k_Pl ?a_Kn ?l_Kn ?c_Kn ?k_Kn ?a_I ?i_I ?l_I ?c_I ?k_I ?a_Of ?i_Of ?l_Of ?c_Of ?k_Of ?pg ?hd ?po ?sa ?mk ?kc ?n_letters ?n_w ?n_k ?n_table ?z_len ?z_range ?z_max ?z_min ?z_repr ?z_int ?z_abs ?z_list ?z_tuple ?z_enumerate ?z_isinstance ?z_bool ?z_str ?z_all ?z_set ?z_sorted
    (case aC => k_is)
    (case aA => k_is)
    (case a_Bx => k_is)
    (case l_Bx => k_is)
    (case c_Bx => k_is)
    (case k_Bx => k_is)
    (case a_T => k_is)
    (case l_T => k_is)
    (case c_T => k_is)
    (case k_T => k_is)
    (case a_P => k_is)
    (case l_P => k_is)
    (case c_P => k_is)
    (case k_P => k_is)
    (case a_M => k_is)
    (case l_M => k_is)
    (case c_M => k_is)
    (case k_M => k_is)
    (case a_X => k_is)
    (case l_X => k_is)
    (case c_X => k_is)
    (case k_X => k_is)
    (case a_W => k_is)
    (case l_W => k_is)
    (case c_W => k_is)
    (case k_W => k_is)
    (case a_Sh => k_is)
    (case l_Sh => k_is)
    (case c_Sh => k_is)
    (case k_Sh => k_is)
    (case a_S => k_is)
    (case l_S => k_is)
    (case c_S => k_is)
    (case k_S => k_is)
    (case a_Fi => k_is)
    (case l_Fi => k_is)
    (case c_Fi => k_is)
    (case k_Fi => k_is)
    (case a_B => k_is)
    (case l_B => k_is)
    (case c_B => k_is)
    (case k_B => k_is)
    (case a_Tb => k_is)
    (case l_Tb => k_is)
    (case c_Tb => k_is)
    (case k_Tb => k_is)
    (case a_R => k_is)
    (case l_R => k_is)
    (case c_R => k_is)
    (case k_R => k_is)
    (case a_Ig => k_is)
    (case l_Ig => k_is)
    (case c_Ig => k_is)
    (case k_Ig => k_is)
    (case a_Bt => k_is)
    (case l_Bt => k_is)
    (case c_Bt => k_is)
    (case k_Bt => k_is)
    (case a_Sq => k_is)
    (case l_Sq => k_is)
    (case c_Sq => k_is)
    (case k_Sq => k_is)
    (case a_N => k_is)
    (case l_N => k_is)
    (case c_N => k_is)
    (case k_N => k_is)
    (case a_Nu => k_is)
    (case l_Nu => k_is)
    (case c_Nu => k_is)
    (case k_Nu => k_is)
    (case a_C => k_is)
    (case l_C => k_is)
    (case c_C => k_is)
    (case k_C => k_is)
    (case a_Z => k_is)
    (case l_Z => k_is)
    (case c_Z => k_is)
    (case k_Z => k_is)
    (case a_It => k_is)
    (case l_It => k_is)
    (case c_It => k_is)
    (case k_It => k_is)
    (case a_Ro => k_is)
    (case l_Ro => k_is)
    (case c_Ro => k_is)
    (case k_Ro => k_is)
    (case a_Sp => k_is)
    (case l_Sp => k_is)
    (case c_Sp => k_is)
    (case k_Sp => k_is)
    (case a_La => k_is)
    (case l_La => k_is)
    (case c_La => k_is)
    (case k_La => k_is)
    (case a_Pk => k_is)
    (case l_Pk => k_is)
    (case c_Pk => k_is)
    (case k_Pk => k_is)
    (case a_Ip => k_is)
    (case l_Ip => k_is)
    (case c_Ip => k_is)
    (case k_Ip => k_is)
    (case a_Tx => k_is)
    (case l_Tx => k_is)
    (case c_Tx => k_is)
    (case k_Tx => k_is)
    (case a_Pl => k_is)
    (case l_Pl => k_is)
    (case c_Pl => k_is)
    (case k_Pl => k_is)
    (case a_Kn => k_is)
    (case l_Kn => k_is)
    (case c_Kn => k_is)
    (case k_Kn => k_is)
    (case a_I => k_is)
    (case i_I => k_is)
    (case l_I => k_is)
    (case c_I => k_is)
    (case k_I => k_is)
    (case a_Of => k_is)
    (case i_Of => k_is)
    (case l_Of => k_is)
    (case c_Of => k_is)
    (case k_Of => k_is)
    (case pg => k_is)
    (case hd => k_is)
    (case po => k_is)
    (case sa => k_is)
    (case mk => k_is)
    (case kc => k_is)
    (case n_letters => k_is)
    (case n_w => k_is)
    (case n_k => k_is)
    (case n_table => k_is)
    (case z_len => k_is)
    (case z_range => k_is)
    (case z_max => k_is)
    (case z_min => k_is)
    (case z_repr => k_is)
    (case z_int => k_is)
    (case z_abs => k_is)
    (case z_list => k_is)
    (case z_tuple => k_is)
    (case z_enumerate => k_is)
    (case z_isinstance => k_is)
    (case z_bool => k_is)
    (case z_str => k_is)
    (case z_all => k_is)
    (case z_set => k_is)
    (case z_sorted => k_is)
