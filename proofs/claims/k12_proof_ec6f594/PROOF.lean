import PyProof.Rows.All
import Wide.All
import OpenK.AllK
import Wide.FinOn
import HandS.ForMost
import HandS.FStr
import HandS.Star
import HandS.IsInst
import HandS.Flow
import HandS.MakeKwOnly
import PySem.Challenge.RW_textloops_k12_written_programs
import KE.GoesNew
import KE.GoesEnum
import KE.KRevSl
import PyProof.ListStr
import PyProof.StrOps2
import HandS.Walk
import HandS.WrittenGet
import HandS.Defaults
/-! W0 -/
set_option Elab.async false
set_option maxRecDepth 100000
set_option maxHeartbeats 4000000
namespace TW
open PySem L2
def top (i : Nat) : Stmt := PySem.Challenge.pw_textloops_k12_written_programs.main.body.getD i (.Pass ⟨0, 0, 0, 0⟩)
abbrev s_frozen : Stmt := top 2
theorem sc_frozen : FnScope ["value", "part", "rows", "tasks", "item", "is_row_end", "row"] ["value"] (defScope s_frozen) := ⟨rfl, rfl, rfl, by decide +kernel, rfl, by decide +kernel, by decide +kernel⟩
abbrev s_is_small_letter : Stmt := top 16
theorem sc_is_small_letter : FnScope ["sign"] ["sign"] (defScope s_is_small_letter) := ⟨rfl, rfl, rfl, by decide +kernel, rfl, by decide +kernel, by decide +kernel⟩
abbrev s_is_word : Stmt := top 17
theorem sc_is_word : FnScope ["text", "sign"] ["text"] (defScope s_is_word) := ⟨rfl, rfl, rfl, by decide +kernel, rfl, by decide +kernel, by decide +kernel⟩
abbrev s_is_ascending : Stmt := top 18
theorem sc_is_ascending : FnScope ["text", "sign", "later"] ["text"] (defScope s_is_ascending) := ⟨rfl, rfl, rfl, by decide +kernel, rfl, by decide +kernel, by decide +kernel⟩
abbrev s_is_alphabet : Stmt := top 19
theorem sc_is_alphabet : FnScope ["text", "sign"] ["text"] (defScope s_is_alphabet) := ⟨rfl, rfl, rfl, by decide +kernel, rfl, by decide +kernel, by decide +kernel⟩
abbrev s_is_name : Stmt := top 20
theorem sc_is_name : FnScope ["text"] ["text"] (defScope s_is_name) := ⟨rfl, rfl, rfl, by decide +kernel, rfl, by decide +kernel, by decide +kernel⟩
abbrev s_are_letters : Stmt := top 21
theorem sc_are_letters : FnScope ["letters", "alphabet", "letter"] ["letters", "alphabet"] (defScope s_are_letters) := ⟨rfl, rfl, rfl, by decide +kernel, rfl, by decide +kernel, by decide +kernel⟩
abbrev s_check_alphabet : Stmt := top 22
theorem sc_check_alphabet : FnScope ["alphabet"] ["alphabet"] (defScope s_check_alphabet) := ⟨rfl, rfl, rfl, by decide +kernel, rfl, by decide +kernel, by decide +kernel⟩
abbrev s_check_text : Stmt := top 23
theorem sc_check_text : FnScope ["text", "alphabet", "index", "letter"] ["text", "alphabet"] (defScope s_check_text) := ⟨rfl, rfl, rfl, by decide +kernel, rfl, by decide +kernel, by decide +kernel⟩
abbrev s_check_name : Stmt := top 24
theorem sc_check_name : FnScope ["name"] ["name"] (defScope s_check_name) := ⟨rfl, rfl, rfl, by decide +kernel, rfl, by decide +kernel, by decide +kernel⟩
abbrev s_check_letters : Stmt := top 25
theorem sc_check_letters : FnScope ["letters", "alphabet"] ["letters", "alphabet"] (defScope s_check_letters) := ⟨rfl, rfl, rfl, by decide +kernel, rfl, by decide +kernel, by decide +kernel⟩
abbrev s_first_word : Stmt := top 28
theorem sc_first_word : FnScope ["item"] ["item"] (defScope s_first_word) := ⟨rfl, rfl, rfl, by decide +kernel, rfl, by decide +kernel, by decide +kernel⟩
abbrev s_tests_within : Stmt := top 29
theorem sc_tests_within : FnScope ["test"] ["test"] (defScope s_tests_within) := ⟨rfl, rfl, rfl, by decide +kernel, rfl, by decide +kernel, by decide +kernel⟩
abbrev s_check_test_form : Stmt := top 30
theorem sc_check_test_form : FnScope ["test", "spot", "waiting", "part"] ["test", "spot"] (defScope s_check_test_form) := ⟨rfl, rfl, rfl, by decide +kernel, rfl, by decide +kernel, by decide +kernel⟩
abbrev s_simple_tests : Stmt := top 31
theorem sc_simple_tests : FnScope ["test", "found", "waiting", "part", "within"] ["test"] (defScope s_simple_tests) := ⟨rfl, rfl, rfl, by decide +kernel, rfl, by decide +kernel, by decide +kernel⟩
abbrev s_check_known : Stmt := top 32
theorem sc_check_known : FnScope ["name", "names"] ["name", "names"] (defScope s_check_known) := ⟨rfl, rfl, rfl, by decide +kernel, rfl, by decide +kernel, by decide +kernel⟩
abbrev s_check_test_names : Stmt := top 33
theorem sc_check_test_names : FnScope ["test", "reads", "loops", "marks", "part"] ["test", "reads", "loops", "marks"] (defScope s_check_test_names) := ⟨rfl, rfl, rfl, by decide +kernel, rfl, by decide +kernel, by decide +kernel⟩
abbrev s_ProgramU_initU : Stmt := inClass (top 36) 0
theorem sc_ProgramU_initU : FnScope ["self", "reads", "prints", "block"] ["self", "reads", "prints", "block"] (defScope s_ProgramU_initU) := ⟨rfl, rfl, rfl, by decide +kernel, rfl, by decide +kernel, by decide +kernel⟩
abbrev s_ProgramU_iterU : Stmt := inClass (top 36) 3
theorem sc_ProgramU_iterU : FnScope ["self"] ["self"] (defScope s_ProgramU_iterU) := ⟨rfl, rfl, rfl, by decide +kernel, rfl, by decide +kernel, by decide +kernel⟩
abbrev s_ProgramU_eqU : Stmt := inClass (top 36) 4
theorem sc_ProgramU_eqU : FnScope ["self", "other"] ["self", "other"] (defScope s_ProgramU_eqU) := ⟨rfl, rfl, rfl, by decide +kernel, rfl, by decide +kernel, by decide +kernel⟩
abbrev s_blocks_within : Stmt := top 37
theorem sc_blocks_within : FnScope ["statement"] ["statement"] (defScope s_blocks_within) := ⟨rfl, rfl, rfl, by decide +kernel, rfl, by decide +kernel, by decide +kernel⟩
abbrev s_checked_spots : Stmt := top 38
theorem sc_checked_spots : FnScope ["reads", "prints", "block", "spots", "taken", "waiting", "statement", "loops", "marks", "inner", "part"] ["reads", "prints", "block"] (defScope s_checked_spots) := ⟨rfl, rfl, rfl, by decide +kernel, rfl, by decide +kernel, by decide +kernel⟩
abbrev s_check_form : Stmt := top 39
theorem sc_check_form : FnScope ["statement", "spot"] ["statement", "spot"] (defScope s_check_form) := ⟨rfl, rfl, rfl, by decide +kernel, rfl, by decide +kernel, by decide +kernel⟩
abbrev s_check_taking : Stmt := top 40
theorem sc_check_taking : FnScope ["statement", "taken"] ["statement", "taken"] (defScope s_check_taking) := ⟨rfl, rfl, rfl, by decide +kernel, rfl, by decide +kernel, by decide +kernel⟩
abbrev s_check_parts : Stmt := top 41
theorem sc_check_parts : FnScope ["statement", "reads", "prints", "loops", "marks"] ["statement", "reads", "prints", "loops", "marks"] (defScope s_check_parts) := ⟨rfl, rfl, rfl, by decide +kernel, rfl, by decide +kernel, by decide +kernel⟩
abbrev s_check_copy : Stmt := top 42
theorem sc_check_copy : FnScope ["reads", "prints", "letter"] ["reads", "prints"] (defScope s_check_copy) := ⟨rfl, rfl, rfl, by decide +kernel, rfl, by decide +kernel, by decide +kernel⟩
abbrev s_written_test : Stmt := top 45
theorem sc_written_test : FnScope ["test", "parts", "waiting", "part"] ["test"] (defScope s_written_test) := ⟨rfl, rfl, rfl, by decide +kernel, rfl, by decide +kernel, by decide +kernel⟩
abbrev s_written_statement : Stmt := top 46
theorem sc_written_statement : FnScope ["statement"] ["statement"] (defScope s_written_statement) := ⟨rfl, rfl, rfl, by decide +kernel, rfl, by decide +kernel, by decide +kernel⟩
abbrev s_format_program : Stmt := top 48
theorem sc_format_program : FnScope ["program", "lines", "waiting", "indent", "part"] ["program"] (defScope s_format_program) := ⟨rfl, rfl, rfl, by decide +kernel, rfl, by decide +kernel, by decide +kernel⟩
abbrev s_block_parts : Stmt := top 49
theorem sc_block_parts : FnScope ["indent", "block", "part"] ["indent", "block"] (defScope s_block_parts) := ⟨rfl, rfl, rfl, by decide +kernel, rfl, by decide +kernel, by decide +kernel⟩
abbrev s_inner_parts : Stmt := top 50
theorem sc_inner_parts : FnScope ["indent", "statement", "deeper", "within", "parts"] ["indent", "statement"] (defScope s_inner_parts) := ⟨rfl, rfl, rfl, by decide +kernel, rfl, by decide +kernel, by decide +kernel⟩
abbrev s__law_whole : Stmt := top 52
theorem sc__law_whole : FnScope ["value"] ["value"] (defScope s__law_whole) := ⟨rfl, rfl, rfl, by decide +kernel, rfl, by decide +kernel, by decide +kernel⟩
abbrev s__law_cell : Stmt := top 53
theorem sc__law_cell : FnScope ["script", "k", "seed", "cell"] ["script", "k"] (defScope s__law_cell) := ⟨rfl, rfl, rfl, by decide +kernel, rfl, by decide +kernel, by decide +kernel⟩
abbrev s__law_digits : Stmt := top 54
theorem sc__law_digits : FnScope ["cell", "sizes", "row", "rest", "size", "seed", "k", "twice"] ["cell", "sizes"] (defScope s__law_digits) := ⟨rfl, rfl, rfl, by decide +kernel, rfl, by decide +kernel, by decide +kernel⟩
abbrev s__law_draw : Stmt := top 55
theorem sc__law_draw : FnScope ["row", "at", "size", "value"] ["row", "at", "size"] (defScope s__law_draw) := ⟨rfl, rfl, rfl, by decide +kernel, rfl, by decide +kernel, by decide +kernel⟩
abbrev s__law_text : Stmt := top 56
theorem sc__law_text : FnScope ["alphabet", "row", "at", "size", "k"] ["alphabet", "row", "at", "size"] (defScope s__law_text) := ⟨rfl, rfl, rfl, by decide +kernel, rfl, by decide +kernel, by decide +kernel⟩
abbrev s__law_frozen : Stmt := top 57
theorem sc__law_frozen : FnScope ["value", "item"] ["value"] (defScope s__law_frozen) := ⟨rfl, rfl, rfl, by decide +kernel, rfl, by decide +kernel, by decide +kernel⟩
abbrev s__law_wide : Stmt := top 58
theorem sc__law_wide : FnScope ["row", "at", "letters", "many", "here", "picked", "k", "number"] ["row", "at"] (defScope s__law_wide) := ⟨rfl, rfl, rfl, by decide +kernel, rfl, by decide +kernel, by decide +kernel⟩
abbrev s__law_wide_prints : Stmt := top 59
theorem sc__law_wide_prints : FnScope ["row", "at", "alphabet", "kind", "other", "extra", "letter"] ["row", "at", "alphabet"] (defScope s__law_wide_prints) := ⟨rfl, rfl, rfl, by decide +kernel, rfl, by decide +kernel, by decide +kernel⟩
abbrev s__law_reserved : Stmt := top 60
theorem sc__law_reserved : FnScope ["words"] [] (defScope s__law_reserved) := ⟨rfl, rfl, rfl, by decide +kernel, rfl, by decide +kernel, by decide +kernel⟩
abbrev s__law_pool : Stmt := top 61
theorem sc__law_pool : FnScope ["row", "at", "signs", "kind", "turn", "step", "pool", "stem", "k", "here", "name"] ["row", "at"] (defScope s__law_pool) := ⟨rfl, rfl, rfl, by decide +kernel, rfl, by decide +kernel, by decide +kernel⟩
abbrev s__law_letters_of : Stmt := top 62
theorem sc__law_letters_of : FnScope ["row", "at", "alphabet", "rest", "picked", "letter"] ["row", "at", "alphabet"] (defScope s__law_letters_of) := ⟨rfl, rfl, rfl, by decide +kernel, rfl, by decide +kernel, by decide +kernel⟩
abbrev s__law_part : Stmt := top 63
theorem sc__law_part : FnScope ["row", "at", "world", "loops", "marks", "kind", "one"] ["row", "at", "world", "loops", "marks"] (defScope s__law_part) := ⟨rfl, rfl, rfl, by decide +kernel, rfl, by decide +kernel, by decide +kernel⟩
abbrev s__law_deep_test : Stmt := top 64
theorem sc__law_deep_test : FnScope ["row", "at", "world", "loops", "marks", "deep", "kind", "one"] ["row", "at", "world", "loops", "marks", "deep"] (defScope s__law_deep_test) := ⟨rfl, rfl, rfl, by decide +kernel, rfl, by decide +kernel, by decide +kernel⟩
abbrev s__law_leaf : Stmt := top 65
theorem sc__law_leaf : FnScope ["row", "at", "world", "loops", "marks", "kind", "fits", "letter", "size"] ["row", "at", "world", "loops", "marks"] (defScope s__law_leaf) := ⟨rfl, rfl, rfl, by decide +kernel, rfl, by decide +kernel, by decide +kernel⟩
abbrev s__law_nested : Stmt := top 66
theorem sc__law_nested : FnScope ["row", "at", "world", "loops", "marks", "deep", "top", "kind", "more", "named", "test", "one", "name", "inner"] ["row", "at", "world", "loops", "marks", "deep", "top"] (defScope s__law_nested) := ⟨rfl, rfl, rfl, by decide +kernel, rfl, by decide +kernel, by decide +kernel⟩
abbrev s__law_nest : Stmt := top 67
theorem sc__law_nest : FnScope ["row", "at", "world", "loops", "marks", "deep", "top", "many", "k"] ["row", "at", "world", "loops", "marks", "deep", "top"] (defScope s__law_nest) := ⟨rfl, rfl, rfl, by decide +kernel, rfl, by decide +kernel, by decide +kernel⟩
abbrev s__law_tower : Stmt := top 68
theorem sc__law_tower : FnScope ["row", "at", "world", "loops", "marks", "size", "kind", "named", "name", "inner", "test"] ["row", "at", "world", "loops", "marks", "size"] (defScope s__law_tower) := ⟨rfl, rfl, rfl, by decide +kernel, rfl, by decide +kernel, by decide +kernel⟩
abbrev s__law_nest_program : Stmt := top 69
theorem sc__law_nest_program : FnScope ["row", "at", "top", "alphabet", "world", "shape", "many", "body", "k", "name"] ["row", "at", "top"] (defScope s__law_nest_program) := ⟨rfl, rfl, rfl, by decide +kernel, rfl, by decide +kernel, by decide +kernel⟩
abbrev s__law_row : Stmt := top 70
theorem sc__law_row : FnScope ["script", "first", "many", "row", "k"] ["script", "first", "many"] (defScope s__law_row) := ⟨rfl, rfl, rfl, by decide +kernel, rfl, by decide +kernel, by decide +kernel⟩
abbrev s__law_thawed : Stmt := top 71
theorem sc__law_thawed : FnScope ["value", "kind", "row", "at", "parts", "item"] ["value", "kind", "row", "at"] (defScope s__law_thawed) := ⟨rfl, rfl, rfl, by decide +kernel, rfl, by decide +kernel, by decide +kernel⟩
abbrev s__law_same : Stmt := top 72
theorem sc__law_same : FnScope ["told", "due", "k"] ["told", "due"] (defScope s__law_same) := ⟨rfl, rfl, rfl, by decide +kernel, rfl, by decide +kernel, by decide +kernel⟩
abbrev s__law_written_test : Stmt := top 73
theorem sc__law_written_test : FnScope ["test"] ["test"] (defScope s__law_written_test) := ⟨rfl, rfl, rfl, by decide +kernel, rfl, by decide +kernel, by decide +kernel⟩
abbrev s__law_lines : Stmt := top 74
theorem sc__law_lines : FnScope ["body", "indent", "lines", "statement"] ["body", "indent"] (defScope s__law_lines) := ⟨rfl, rfl, rfl, by decide +kernel, rfl, by decide +kernel, by decide +kernel⟩
abbrev s__law_written : Stmt := top 75
theorem sc__law_written : FnScope ["drawn"] ["drawn"] (defScope s__law_written) := ⟨rfl, rfl, rfl, by decide +kernel, rfl, by decide +kernel, by decide +kernel⟩
abbrev s__law_keeps : Stmt := top 76
theorem sc__law_keeps : FnScope ["made", "drawn"] ["made", "drawn"] (defScope s__law_keeps) := ⟨rfl, rfl, rfl, by decide +kernel, rfl, by decide +kernel, by decide +kernel⟩
abbrev s_law : Stmt := top 77
theorem sc_law : FnScope ["script", "first", "second", "row", "at", "one", "two", "due", "other", "k"] ["script"] (defScope s_law) := ⟨rfl, rfl, rfl, by decide +kernel, rfl, by decide +kernel, by decide +kernel⟩
abbrev s_flat : Stmt := top 3
theorem sc_flat : FnScope ["value", "found", "waiting", "item"] ["value"] (defScope s_flat) := ⟨rfl, rfl, rfl, by decide +kernel, rfl, by decide +kernel, by decide +kernel⟩
abbrev s_Program_size : Stmt := inClass (top 36) 1
theorem sc_Program_size : FnScope ["self"] ["self"] (defScope s_Program_size) := ⟨rfl, rfl, rfl, by decide +kernel, rfl, by decide +kernel, by decide +kernel⟩
abbrev s_Program_depth : Stmt := inClass (top 36) 2
theorem sc_Program_depth : FnScope ["self"] ["self"] (defScope s_Program_depth) := ⟨rfl, rfl, rfl, by decide +kernel, rfl, by decide +kernel, by decide +kernel⟩
/-- a def that keeps its promise, as its callers see it -/
structure Cl (P : Program) (w : World) (K : PySem.W.Frag) (mg : Str → Option Value) (base : Heap) (x : Str) (k : Nat) (ps : List Str) (sp : Sp) where
  f : Addr
  fd : FuncData
  ok : FnOk P w K mg base CX0 k f fd ps sp
  b : Binds K fd ps []
  kp : PySem.W.keepIn K (.ref f) = true
  mg : mg x = some (.ref f)
/-- the built-in names are the built-ins -/
structure Bt (mg : Str → Option Value) : Prop where
  b_len : mg "len" = none
  b_all : mg "all" = none
  b_any : mg "any" = none
  b_int : mg "int" = none
  b_str : mg "str" = none
  b_bool : mg "bool" = none
  b_list : mg "list" = none
  b_tuple : mg "tuple" = none
  b_range : mg "range" = none
  b_isinstance : mg "isinstance" = none
  b_enumerate : mg "enumerate" = none
  b_zip : mg "zip" = none
  b_sorted : mg "sorted" = none
end TW
/-! R1 -/
set_option Elab.async false
set_option linter.all false
set_option maxRecDepth 100000
set_option maxHeartbeats 4000000
namespace TW
open PySem PySem.Spec PyProof.Rows L2
section
variable {X : Cx}
/-! ### a list or a tuple, walked -/
def iSeq (K : PySem.W.Frag) (tl : TE) : TI := fun σ H R => tl σ H fun x H1 => (∃ a, x = .ref a ∧ (∃ xs, SqL K H1 a xs) ∧ R (Itl K a) H1) ∨ (∃ a, x = .ref a ∧ (∃ xs, SqT K H1 a xs) ∧ R (Itt K a) H1)
theorem pi_seq {tg l : Expr} {tl : TE} (hl : PE X l tl) : PI X tg l (iSeq X.K tl) := by
  refine ⟨fun pins s σ H R I h => ?_⟩
  refine thn (hl.run pins s σ H _ I h) fun v s1 ⟨x, H1, I1, r1, q1⟩ => ?_
  rcases q1 with ⟨a, e, ⟨xs, hq⟩, q⟩ | ⟨a, e, ⟨xs, hq⟩, q⟩
  · subst e
    cases r1
    obtain ⟨its, rv, p, hz⟩ := I1.list hq
    refine wpAny_pyIter_list p.isList ?_
    refine ⟨s1.heap.objs.size, [s1.heap.objs.size], _, _, H1, rfl, I1.kept (t' := s1.toks) fun b o e => Heap.get?_push_of_some _ e, turn_list a _, ⟨_, Heap.get?_push_size _ rfl, rfl, rfl⟩, fun b hb => ?_, q⟩
    have e : b = s1.heap.objs.size := by simpa using hb
    subst e
    exact I1.fpOk (Nat.le_refl _) (I1.hok.fresh (Nat.le_refl _))
  · subst e
    cases r1
    obtain ⟨its, rv, p, hz⟩ := I1.tuple hq
    refine wpAny_pyIter_tuple (show s1.heap.IsTuple a its.toArray from p) ?_
    refine ⟨s1.heap.objs.size, [s1.heap.objs.size], _, _, H1, rfl, I1.kept (t' := s1.toks) fun b o e => Heap.get?_push_of_some _ e, turn_tuple a _, ⟨_, Heap.get?_push_size _ rfl, rfl, rfl⟩, fun b hb => ?_, q⟩
    have e : b = s1.heap.objs.size := by simpa using hb
    subst e
    exact I1.fpOk (Nat.le_refl _) (I1.hok.fresh (Nat.le_refl _))
/-! ### new tuples, turn by turn -/
def Itn (n : Nat) (items : Nat → List V) : It := ⟨fun i _ => i < n, fun i H v H' => ∃ T, v = .ref T ∧ H T = none ∧ H' = upd H T (.tup (items i)), fun i _ => i = n⟩
theorem turn_new {P : Program} {w : World} {K : PySem.W.Frag} {tg : Expr} {I0 : Addr} {fp wr : List Addr} {n : Nat} {Y : Nat → Heap → Value → Heap → Prop} {St : Nat → Heap → Prop} {items : Nat → List V}
    (W : ∀ A : Around, A.handled = none → PySem.GoesN P w A tg I0 fp wr n Y St) (mem : I0 ∈ fp) (obj : ∀ i h, St i h → ∀ b ∈ fp, ∃ o, h.get? b = some o ∧ ∀ v, o.data ≠ .cell v)
    (hl : ∀ i, (items i).length ≤ sizeLine) (hY : ∀ i h0 v h, Y i h0 v h → ∃ (T : Addr) (its : List Value), v = .ref T ∧ h0.objs.size ≤ T ∧ Vals (items i) its ∧ h.IsTuple T its.toArray)
    (hself : ∀ (A : Around) (i : Nat) (s : Shared) (Q : Value → Shared → Prop) (E : Value → Shared → Prop), St i s.heap → Q (.ref I0) s → wpAny (model P w) A (pyIter (.ref I0)) Q E s) : Turn P w K tg (Itn n items) fp I0 St where
  mem := mem
  obj := obj
  keep := fun i h h' st k => (W ({} : Around) rfl).frame i h h' st k
  item := by
    intro X hP hw hK hc i pins s σ H E I hf st hg
    subst hP hw hK
    have G := W X.A (I.ok.hd hc)
    refine G.goes i s _ E hg st fun v h' tk hy st' hk htk => ?_
    obtain ⟨T, its, rfl, hT, hv, hs⟩ := hY _ _ _ _ hy
    have new : ObjOk X.prog X.w (upd H T (.tup (items i))) h' T (.tup (items i)) := ⟨hl i, its, hv, hs⟩
    have hf' : ∀ b ∈ wr, FpOk X pins H b := fun b hb => hf b (G.sub b hb)
    have I1 := I.turnedNew (t' := tk) hk hf' hT new
    refine ⟨.ref T, _, I1, rfl, ⟨T, rfl, I.hok.fresh hT, rfl⟩, st', fun b hb => ?_⟩
    obtain ⟨o, ho, _⟩ := obj i s.heap st b hb
    rw [upd_ne (Nat.ne_of_lt (Nat.lt_of_lt_of_le (Heap.lt_size ho) hT))]
    exact (hf b hb).1
  done := by
    intro X hP hw hK hc i pins s σ H E I hf st hg
    subst hP hw hK
    have e : i = n := hg
    subst e
    have G := W X.A (I.ok.hd hc)
    exact G.stops s _ E st fun h' tk hk htk => I.turnedL hk fun b hb => hf b (G.sub b hb)
  self := hself

/-! ### enumerate(text), zip(text, text) -/
def sgn (x : Str) (i : Nat) : V := .str ⟨#[x.cps.getD i 0]⟩
def iEnumS (ta : TA) : TI := fun σ H R => ta σ H fun vs H1 => ∃ x, vs = [.str x] ∧ R (Itn x.cps.size fun i => [.int (i : Nat), sgn x i]) H1
theorem sgn_rel {x : Str} {i : Nat} {v : Value} (h : ∃ c u, x.cps[i]? = some c ∧ v = .str ⟨#[c]⟩ u) : RelV (sgn x i) v := by
  obtain ⟨c, u, hc, rfl⟩ := h
  refine ⟨u, ?_⟩
  have e : x.cps.getD i 0 = c := by
    rw [Array.getD_eq_getD_getElem?, hc] <;> rfl
  rw [e]
theorem pi_enumS {e : Expr} {ta : TA} {p pos tpos : Pos} {elts : List Expr} {kk : Nat} (hg : Gl X "enumerate") (hm : X.mg "enumerate" = none) (ha : PA X [e] ta) (hs : starEach [e] X.env = [(false, eval e X.env)] := by rfl) :
    PI X (.Tuple elts kk tpos) (.Call (.Name "enumerate" p) [e] [] pos) (iEnumS ta) := by
  refine ⟨fun pins s σ H R I h => ?_⟩
  refine Call_ (ld_blt I hg hm boot_enumerate (PyProof.Rows.callWith_type1 (thn (ha.run pos pins s σ H _ I h) fun us s1 ⟨vs, H1, I1, r1, q1⟩ => ?_) hs rfl))
  obtain ⟨x, ex, q⟩ := q1
  subst ex
  obtain ⟨u, rfl, ru⟩ := r1.one
  obtain ⟨t, rfl⟩ := ru
  refine call_enumerate_str fun h' he hit hsz hk => wpAny_pyIter_enum he ?_
  have I2 : Inv X pins σ H1 { s1 with heap := h' } := I1.kept (t' := s1.toks) hk
  have hin : ∀ A : Around, A.handled = none → A.in1.handled = none := fun A h => h
  refine ⟨s1.heap.objs.size + 1, (s1.heap.objs.size + 1) :: [s1.heap.objs.size], _, _, H1, rfl, I2,
    turn_new (K := X.K) (tg := .Tuple elts kk tpos) (items := fun i => [.int (i : Nat), sgn x i]) (fun A hA => PySem.GoesN.enumFrom 0 (Draws.text (prog := X.prog) (w := X.w) (hin A hA) s1.heap.objs.size x t) (s1.heap.objs.size + 1) (Nat.succ_ne_self _) (by simp) (by simp)) (by simp) (fun i h st b hb => ?_)
      (fun i => by show 2 ≤ sizeLine; decide) (fun i h0 v h hy => ?_) (fun A i s Q E st hq => ?_), ⟨⟨.none, ?_⟩, hit⟩, fun b hb => ?_, q⟩
  · obtain ⟨⟨old, he⟩, ⟨o, ho, hc, hd⟩⟩ := st
    have e' : b = s1.heap.objs.size + 1 ∨ b = s1.heap.objs.size := by simpa using hb
    rcases e' with z | z
    · rw [z]; exact ⟨_, he, fun v q => nomatch q⟩
    · rw [z]; exact ⟨o, ho, fun v q => by rw [hd] at q; cases q⟩
  · obtain ⟨T, tk, y, rfl, hT, hy, ht⟩ := hy
    refine ⟨T, [.int ((0 : Int) + (i : Int)) tk, y], rfl, hT, .cons ⟨tk, by rw [Int.zero_add]⟩ (.cons (sgn_rel hy) .nil), ht⟩
  · obtain ⟨⟨old, he⟩, _⟩ := st
    exact wpAny_pyIter_enum he hq
  · have e0 : (0 : Int) + ((0 : Nat) : Int) = 0 := rfl
    rw [e0]
    exact he
  · have e' : b = s1.heap.objs.size + 1 ∨ b = s1.heap.objs.size := by simpa using hb
    have hle : s1.heap.objs.size ≤ b := by
      rcases e' with z | z
      · rw [z]; exact Nat.le_add_right _ _
      · rw [z]; exact Nat.le_refl _
    exact I1.fpOk hle (I1.hok.fresh hle)
def iZipS (ta : TA) : TI := fun σ H R => ta σ H fun vs H1 => ∃ x y, vs = [.str x, .str y] ∧ R (Itn (min x.cps.size y.cps.size) fun i => [sgn x i, sgn y i]) H1
theorem pi_zipS {e e2 : Expr} {ta : TA} {p pos tpos : Pos} {elts : List Expr} {kk : Nat} (hg : Gl X "zip") (hm : X.mg "zip" = none) (ha : PA X [e, e2] ta)
    (hs : starEach [e, e2] X.env = (false, eval e X.env) :: starEach [e2] X.env := by rfl) (hpl : (backTo pos (starEach [e2] X.env)).any (·.1) = false := by rfl) :
    PI X (.Tuple elts kk tpos) (.Call (.Name "zip" p) [e, e2] [] pos) (iZipS ta) := by
  refine ⟨fun pins s σ H R I h => ?_⟩
  refine Call_ (ld_blt I hg hm PyProof.Rows.boot_zip (PyProof.Rows.callWith_type1 (thn (ha.run pos pins s σ H _ I h) fun us s1 ⟨vs, H1, I1, r1, q1⟩ => ?_) hs hpl))
  obtain ⟨x, y, ex, q⟩ := q1
  subst ex
  obtain ⟨u1, u2, rfl, r1, r2⟩ := vals2 r1
  obtain ⟨t1, rfl⟩ := r1
  obtain ⟨t2, rfl⟩ := r2
  refine zip_begins2 (begins_text x t1) (begins_text y t2) trivial trivial fun h' hz hTI hTO h1 h2 hsz hk => wpAny_pyIter_zip hz ?_
  have I2 : Inv X pins σ H1 { s1 with heap := h' } := I1.kept (t' := s1.toks) hk
  have hin : ∀ A : Around, A.handled = none → A.in1.handled = none := fun A h => h
  have S := zip_sep2 (N := s1.heap.objs.size) (fp1 := []) (fp2 := []) (by simp) (by simp)
  refine ⟨s1.heap.objs.size + 4, (s1.heap.objs.size + 4) :: (s1.heap.objs.size + 2) :: (s1.heap.objs.size + 3) :: ([s1.heap.objs.size] ++ [s1.heap.objs.size + 1]), _, _, H1, rfl, I2,
    turn_new (K := X.K) (tg := .Tuple elts kk tpos) (items := fun i => [sgn x i, sgn y i]) (fun A hA => PySem.GoesN.zip2 S (Draws.text (prog := X.prog) (w := X.w) (hin A hA) s1.heap.objs.size x t1) (Draws.text (prog := X.prog) (w := X.w) (hin A hA) (s1.heap.objs.size + 1) y t2)) (by simp) (fun i h st b hb => ?_)
      (fun i => by show 2 ≤ sizeLine; decide) (fun i h0 v h hy => ?_) (fun A i s Q E st hq => ?_), ⟨hz, hTI, ⟨_, _, hTO⟩, ⟨_, h1, rfl, rfl⟩, ⟨_, h2, rfl, rfl⟩⟩, fun b hb => ?_, q⟩
  · obtain ⟨hz, hTI, ⟨a1, a2, hTO⟩, ⟨o1, e1, c1, d1⟩, ⟨o2, e2, c2, d2⟩⟩ := st
    have e' : b = s1.heap.objs.size + 4 ∨ b = s1.heap.objs.size + 2 ∨ b = s1.heap.objs.size + 3 ∨ b = s1.heap.objs.size ∨ b = s1.heap.objs.size + 1 := by simpa using hb
    rcases e' with q | q | q | q | q
    · rw [q]; exact ⟨_, hz, fun v q => nomatch q⟩
    · rw [q]; exact ⟨_, hTI, fun v q => nomatch q⟩
    · rw [q]; exact ⟨_, hTO, fun v q => nomatch q⟩
    · rw [q]; exact ⟨o1, e1, fun v q => by rw [d1] at q; cases q⟩
    · rw [q]; exact ⟨o2, e2, fun v q => by rw [d2] at q; cases q⟩
  · obtain ⟨T, a, b, rfl, hT, h1, h2, ht⟩ := hy
    exact ⟨T, [a, b], rfl, hT, .cons (sgn_rel h1) (.cons (sgn_rel h2) .nil), ht⟩
  · exact wpAny_pyIter_zip st.1 hq
  · have e' : b = s1.heap.objs.size + 4 ∨ b = s1.heap.objs.size + 2 ∨ b = s1.heap.objs.size + 3 ∨ b = s1.heap.objs.size ∨ b = s1.heap.objs.size + 1 := by simpa using hb
    have hle : s1.heap.objs.size ≤ b := by
      rcases e' with z | z | z | z | z
      · rw [z]; exact Nat.le_add_right _ _
      · rw [z]; exact Nat.le_add_right _ _
      · rw [z]; exact Nat.le_add_right _ _
      · rw [z]; exact Nat.le_refl _
      · rw [z]; exact Nat.le_add_right _ _
    exact I1.fpOk hle (I1.hok.fresh hle)
end
end TW
/-! R2 -/
set_option Elab.async false
set_option linter.all false
set_option maxRecDepth 100000
set_option maxHeartbeats 4000000
namespace TW
open PySem PySem.Spec PyProof.Rows L2
/-! ### xs[::-1] -/
section
variable {prog : Program} {w : World} {A : Around} {E : Value → Shared → Prop} {s : Shared}
theorem fm_congr {α β : Type} {f g : α → Option β} : ∀ (l : List α), (∀ x ∈ l, f x = g x) → l.filterMap f = l.filterMap g
  | [], _ => rfl
  | a :: l, h => by
    rw [List.filterMap_cons, List.filterMap_cons, h a List.mem_cons_self, fm_congr l fun x hx => h x (List.mem_cons_of_mem _ hx)]
theorem adjust_rev (n : Nat) : Builtin.Slice.sliceAdjust none none (-1) (n : Int) = ((n : Int) - 1, -1) := by
  unfold Builtin.Slice.sliceAdjust
  have h1 : ((-1 : Int) < 0) := by omega
  simp only [h1, if_true]
theorem places_rev (n : Nat) : Builtin.Slice.slicePlaces ((n : Int) - 1) (-1) (-1) = n := by
  unfold Builtin.Slice.slicePlaces
  have h1 : ¬ ((-1 : Int) > 0) := by omega
  simp only [h1, if_false]
  split
  · rename_i h
    simp only [show (-(-1) : Int) = 1 from rfl, Int.ediv_one]
    omega
  · omega
theorem pick_rev (xs : Array Value) : ((List.range xs.size).filterMap fun (k : Nat) => xs[(((xs.size : Int) - 1) + (k : Int) * (-1)).toNat]?).toArray = xs.toList.reverse.toArray := by
  have e : ((List.range xs.size).filterMap fun (k : Nat) => xs[(((xs.size : Int) - 1) + (k : Int) * (-1)).toNat]?) = ((List.range xs.size).map fun k => xs.size - 1 - k).filterMap (xs[·]?) := by
    rw [List.filterMap_map]
    apply fm_congr
    intro k hk
    have hk := List.mem_range.mp hk
    show xs[(((xs.size : Int) - 1) + (k : Int) * (-1)).toNat]? = xs[xs.size - 1 - k]?
    have : (((xs.size : Int) - 1) + (k : Int) * (-1)).toNat = xs.size - 1 - k := by omega
    rw [this]
  rw [e, PySem.W.krv_range, List.filterMap_reverse, PySem.W.krv_all]
theorem getItem_tuple_rev {t sl : Addr} {items : Array Value} {vs : Value} {Q : Value → Shared → Prop} (ht : IsTup s.heap t items) (hs : s.heap.IsSliceOf sl .none .none vs) (pk : IsPart vs (some (-1)))
    (h : Q (.ref s.heap.objs.size) { s with heap := s.heap.push { cls := .type "tuple", data := .seq items.toList.reverse.toArray } }) (hsz : items.size ≤ sizeLine) : wpAny (model prog w) A (getItem (.ref t) (.ref sl)) Q E s := by
  have htake : sizeOk (.seq items.toList.reverse.toArray) := by
    show items.toList.reverse.toArray.size ≤ sizeLine
    rw [List.size_toArray, List.length_reverse, Array.length_toList]
    exact hsz
  obtain ⟨os, hos, hcs, hds⟩ := id hs
  have hTs : s.TypeIs (.ref sl) "slice" := ⟨os, hos, hcs⟩
  unfold getItem
  try with_reducible refine wpAny_holding ?_
  first | refine wpAny_bind (wpAny_pure ?_) | skip
  refine wpAny_bind (wpAny_sequenceKey ht.typeIs (by decide) ?_)
  refine wpAny_bind (wpAny_callSpecial?_slot (name := Str.ofString "__getitem__") ht.typeIs PyProof.Rows.slot_tuple_getitem
    (wpAny_call_entry PyProof.Rows.slot_tuple_getitem ht.typeIs entry_tuple_getitem ?_ (args_tuple_getitem _ _)))
  show wpAny _ _ (Builtin.Tuple.tupleItemsOf (.ref t) >>= _) _ _ s
  refine wpAny_bind (tupleItemsOf_ ht ?_)
  refine wpAny_bind (wpAny_typeOf hTs ?_)
  rw [if_pos (by decide)]
  have go : ∀ {A : Around} {E : Value → Shared → Prop} {Q : Int × Int × Nat → Shared → Prop}, Q ((items.size : Int) - 1, -1, items.size) s → wpAny (model prog w) A (Builtin.Slice.sliceApplied (.ref sl) (pure (items.size : Int))) Q E s := by
    intro A E Q hq
    unfold Builtin.Slice.sliceApplied Builtin.Slice.sliceFields
    refine wpAny_bind (wpAny_bind (wpAny_field hos hds (x := .none) rfl (wpAny_bind (wpAny_field hos hds (x := .none) rfl (wpAny_bind (wpAny_field hos hds (x := vs) rfl (wpAny_pure ?_)))))))
    refine wpAny_bind (HT.slicePart_ pk ?_)
    show wpAny _ _ (if ((-1 : Int) == 0) = true then _ else _) _ _ s
    rw [if_neg (by decide)]
    refine wpAny_bind (HT.slicePart_ .none (wpAny_bind (HT.slicePart_ .none (wpAny_bind (wpAny_pure ?_)))))
    show wpAny _ _ (match Builtin.Slice.sliceAdjust none none (-1) (items.size : Int) with | (lo, hi) => pure (lo, (-1 : Int), Builtin.Slice.slicePlaces lo hi (-1))) _ _ s
    rw [adjust_rev]
    show wpAny _ _ (pure ((items.size : Int) - 1, (-1 : Int), Builtin.Slice.slicePlaces ((items.size : Int) - 1) (-1) (-1))) _ _ s
    rw [places_rev]
    exact wpAny_pure hq
  refine wpAny_bind (go ?_)
  have hno : ¬ (((items.size : Int) - 1 == 0 && (-1 : Int) == 1 && items.size == items.size) = true) := by
    intro q
    rw [Bool.and_eq_true, Bool.and_eq_true] at q
    exact absurd q.1.2 (by decide)
  show wpAny _ _ (if ((items.size : Int) - 1 == 0 && (-1 : Int) == 1 && items.size == items.size) = true then _ else _) _ _ s
  rw [if_neg hno, pick_rev]
  first
    | exact wpAny_bind (m := Builtin.Tuple.tupleExact _) (wpAny_newObj_type (wpAny_pure ⟨_, rfl, wpAny_pure h⟩) htake)
    | exact wpAny_bind (m := Builtin.Tuple.tupleExact _) (wpAny_newObj_type (wpAny_bind (wpAny_pure (wpAny_pure ⟨_, rfl, wpAny_pure h⟩))) htake)
    | exact wpAny_bind (wpAny_bind (m := Builtin.Tuple.tupleExact _) (wpAny_newObj_type (wpAny_pure (wpAny_pure ⟨_, rfl, wpAny_pure h⟩)) htake))
    | exact wpAny_bind (wpAny_bind (m := Builtin.Tuple.tupleExact _) (wpAny_newObj_type (wpAny_pure ⟨_, rfl, wpAny_pure h⟩) htake))
end
section
variable {X : Cx}
/-- v[sl], sl the slice ::-1 -/
def RvR (X : Cx) (r : V → Hp → VK → Prop) : Prop :=
  ∀ (pins : List (Addr × Obj)) (s : Shared) (σ : L2.St) (H : Hp) (x : V) (v vs : Value) (sl : Addr) (Q : VK), Inv X pins σ H s → RelV x v → s.heap.IsSliceOf sl .none .none vs → IsPart vs (some (-1)) → r x H Q →
    ∃ T id, typeLookup (.type T) "__getitem__" = pure (some (.builtin id)) ∧ s.TypeIs v T ∧ wpAny (model X.prog X.w) X.A (getItem v (.ref sl)) (EP X pins σ Q) X.xe s
def tRev (r : V → Hp → VK → Prop) (te : TE) : TE := fun σ H Q => te σ H fun x H1 => r x H1 Q
theorem pe_rev {e : Expr} {te : TE} {p1 p2 p3 pos : Pos} {k : Nat} {r : V → Hp → VK → Prop} (hr : RvR X r) (he : PE X e te) : PE X (.Subscript e (.Slice none none (some (.UnaryOp .USub (.Constant (.int 1) k p1) p3)) p2) pos) (tRev r te) := by
  refine ⟨fun pins s σ H Q I h => ?_⟩
  refine Subscript_ (thn (he.run pins s σ H _ I h) fun v s1 ⟨x, H1, I1, r1, q1⟩ => ?_)
  refine wpAny_Slice ?_
  rw [evalPart_none]
  refine wpAny_pure ?_
  refine wpAny_pure ?_
  rw [evalPart_some]
  have hm : PE X (.UnaryOp .USub (.Constant (.int 1) k p1) p3) (tUn (rU fun i => .int (-i)) (tC (.int 1))) := pe_un un_neg pe_int
  refine thn (hm.run pins s1 σ H1 (fun y H2 => y = .int (-1) ∧ H2 = H1) I1 ⟨1, rfl, rfl, rfl⟩) fun vs s3 ⟨y, H3, I3, ry, e1, e2⟩ => ?_
  subst e1 e2
  obtain ⟨tk, rfl⟩ := ry
  have I4 : Inv X pins σ H3 { s3 with heap := s3.heap.push { cls := .type "slice", data := .fields #[.none, .none, .int (-1) tk] } } := I3.kept (t' := s3.toks) fun b ob q => Heap.get?_push_of_some _ q
  obtain ⟨T, id, hT, ht, hg⟩ := hr pins { s3 with heap := s3.heap.push { cls := .type "slice", data := .fields #[.none, .none, .int (-1) tk] } } σ H3 x v _ s3.heap.objs.size Q I4 r1 (Heap.IsSliceOf.new ..) (.int (-1) tk) q1
  show wpAny (model X.prog X.w) X.A (subscriptTail e (.Slice none none (some _) p2) v (.ref s3.heap.objs.size)) (EP X pins σ Q) X.xe { s3 with heap := s3.heap.push { cls := .type "slice", data := .fields #[.none, .none, .int (-1) tk] } }
  exact tail_any (ops := [v, .ref s3.heap.objs.size]) ht hT hg (by with_unfolding_all rfl)
def rRvL (K : PySem.W.Frag) : V → Hp → VK → Prop := fun x H Q => ∃ a xs, x = .ref a ∧ SqL K H a xs ∧ ∀ p, H p = none → Q (.ref p) (upd H p (.lst xs.reverse))
def rRvT (K : PySem.W.Frag) : V → Hp → VK → Prop := fun x H Q => ∃ a xs, x = .ref a ∧ SqT K H a xs ∧ ∀ p, H p = none → Q (.ref p) (upd H p (.tup xs.reverse))
def rRvS (K : PySem.W.Frag) : V → Hp → VK → Prop := fun x H Q => rRvL K x H Q ∨ rRvT K x H Q
theorem vals_reverse : ∀ {xs : List V} {us : List Value}, Vals xs us → Vals xs.reverse us.reverse
  | _, _, .nil => .nil
  | _, _, .cons (a := x) (b := u) a r => by
    rw [List.reverse_cons, List.reverse_cons]
    exact (vals_reverse r).append (.cons a .nil)
theorem rv_list : RvR X (rRvL X.K) := by
  intro pins s σ H x v vs sl Q I rx hs pk h
  obtain ⟨a, xs, rfl, hx, q⟩ := h
  cases rx
  obtain ⟨its, r, ht, hz⟩ := I.list hx
  have hlen := r.length
  refine ⟨"list", _, PySem.list_getitem_lookup, ht.isList.typeIs, ?_⟩
  refine wpAny_getItem_list_slice ht.isList hs .none .none pk (by decide) ?_ (by rw [List.size_toArray] <;> omega)
  rw [PySem.W.krv_pick]
  refine ⟨.ref s.heap.objs.size, _, I.laid (t' := s.toks) (o := .lst xs.reverse) (fun b ob q => Heap.get?_push_of_some _ q) (Nat.le_refl _) ?_, rfl, q _ (I.hok.fresh (Nat.le_refl _))⟩
  exact ⟨by rw [List.length_reverse]; exact hz, its.reverse, 0, vals_reverse r, Heap.get?_push_size _ rfl⟩
theorem rv_tup : RvR X (rRvT X.K) := by
  intro pins s σ H x v vs sl Q I rx hs pk h
  obtain ⟨a, xs, rfl, hx, q⟩ := h
  cases rx
  obtain ⟨its, r, ht, hz⟩ := I.tuple hx
  have hlen : its.toArray.size = xs.length := by rw [List.size_toArray]; exact r.length.symm
  refine ⟨"tuple", _, PyProof.Rows.slot_tuple_getitem.lookup, ht.typeIs, ?_⟩
  refine getItem_tuple_rev ht hs pk ?_ (by rw [hlen]; exact hz)
  refine ⟨.ref s.heap.objs.size, _, I.laid (t' := s.toks) (o := .tup xs.reverse) (fun b ob q => Heap.get?_push_of_some _ q) (Nat.le_refl _) ?_, rfl, q _ (I.hok.fresh (Nat.le_refl _))⟩
  exact ⟨by rw [List.length_reverse]; exact hz, its.reverse, vals_reverse r, IsTup.new _ _⟩
theorem rv_seq : RvR X (rRvS X.K) := by
  intro pins s σ H x v vs sl Q I rx hs pk h
  rcases h with h | h
  · exact rv_list pins s σ H x v vs sl Q I rx hs pk h
  · exact rv_tup pins s σ H x v vs sl Q I rx hs pk h
/-! ### xs.extend(tuple) -/
def rExtendT (K : PySem.W.Frag) : V → List V → Hp → VK → Prop := fun x vs H Q => ∃ l b xs zs, x = .ref l ∧ vs = [.ref b] ∧ H l = some (.lst xs) ∧ H b = some (.tup zs) ∧ xs.length + zs.length ≤ sizeLine ∧ Q .non (upd H l (.lst (xs ++ zs)))
end
end TW
/-! R3 -/
set_option Elab.async false
set_option linter.all false
set_option maxRecDepth 100000
set_option maxHeartbeats 4000000
namespace TW
open PySem PySem.Spec PyProof.Rows L2
theorem list_extend_tup (l : Addr) (items : Array Value) (n : Nat) (b : Addr) (items2 : Array Value) (hs0 : ¬(!items.isEmpty && Builtin.List.listTooLong (items.size + items2.size)) = true) (hs1 : items.size ≤ sizeLine) (hs2 : items.size + items2.size ≤ sizeLine + 1) :
    Meets (Builtin.«list.extend» ⟨[.ref l, .ref b], []⟩) (fun _ R s => s.heap.get? l = some { cls := .type "list", dict := none, data := .seq items n, slots := #[] } ∧ IsTup s.heap b items2 ∧ R (.ok (.ret Value.none)) { s with heap := s.heap.update l (Obj.mapSeq fun x => x ++ items2), toks := s.toks }) :=
  .of_wp fun prog w A R s h => by
    obtain ⟨hl, ⟨o, ho, hc, n2, hd⟩, h⟩ := h
    have hz' : (items ++ items2).size ≤ sizeLine + 1 := by rw [Array.size_append]; exact hs2
    show wpAny _ _ (Builtin.List.listExtendWith (.ref l) (.ref b) .none) _ _ s
    unfold Builtin.List.listExtendWith
    refine wpAny_bind (wpAny_typeOf ⟨o, ho, hc⟩ ?_)
    have h1 : (Builtin.List.listSameRef (.ref l) (.ref b) || Value.type "tuple" == Value.type "list" || Value.type "tuple" == Value.type "tuple") = true := by simp
    simp only [h1, if_true]
    refine wpAny_bind ?_
    unfold Builtin.List.listItems
    refine wpAny_bind (wpAny_seqItems ho hd (wpAny_pure ?_))
    refine wpAny_bind ?_
    refine wpAny_bind (wpAny_seqItems hl rfl (wpAny_pure ?_))
    rw [if_neg hs0]
    show wpAny _ _ (updateSeq l (· ++ items2) >>= fun _ => ret .none) _ _ s
    refine wpAny_bind (wpAny_updateSeq hl rfl (hz := hs1) (_hz' := hz') ?_)
    exact wpAny_pure ⟨_, rfl, h⟩
end TW
namespace TW
open PySem PySem.Spec L2
section
variable {X : Cx}
theorem mt_extendT : MtM X "list.extend" (rExtendT X.K) := by
  intro pins s σ H x vs v us Q I rx rv h
  obtain ⟨l, b, xs, zs, rfl, rfl, hH, hB, hz, q⟩ := h
  cases rx
  obtain ⟨u, rfl, ru⟩ := rv.one
  cases ru
  obtain ⟨z, its, n, r, hl, e⟩ := I.lstM hH
  obtain ⟨its2, r2, ht2, hz2⟩ := I.tuple (SqT.of hB)
  have hl2 := r2.length
  have hsz : its.toArray.size + its2.toArray.size ≤ sizeLine := by rw [List.size_toArray, List.size_toArray]; omega
  have hlong : ¬ (!its.toArray.isEmpty && Builtin.List.listTooLong (its.toArray.size + its2.toArray.size)) = true := by
    rw [notLongL hsz, Bool.and_false]
    exact Bool.false_ne_true
  refine call_meets F.slot_list_extend ⟨_, e, rfl⟩ F.entry_list_extend (F.args_list_extend_2 _ _)
    (list_extend_tup l its.toArray n b its2.toArray hlong (by rw [List.size_toArray]; omega) (by omega)) ⟨e, ht2, ?_⟩
  refine ⟨.non, _, I.lset (its' := its ++ its2) hH e (by simp) (r.append r2) ?_, rfl, q⟩
  rw [List.length_append]
  omega
/-! ### list(text) -/
def signsOf (x : Str) : List Str := x.cps.toList.map fun c => ⟨#[c]⟩
def rLstS : List V → Hp → VK → Prop := fun xs H Q => ∃ z, xs = [.str z] ∧ z.length ≤ sizeLine ∧ ∀ l, H l = none → Q (.ref l) (upd H l (.lst ((signsOf z).map V.str)))
theorem vals_of_ix : ∀ {xs : List V} {us : List Value}, xs.length = us.length → (∀ (j : Nat) (x : V) (u : Value), xs[j]? = some x → us[j]? = some u → RelV x u) → Vals xs us
  | [], [], _, _ => .nil
  | [], _ :: _, h, _ => by simp at h
  | _ :: _, [], h, _ => by simp at h
  | x :: xs, u :: us, h, k => .cons (k 0 x u rfl rfl) (vals_of_ix (by simpa using h) fun j y v a b => k (j + 1) y v a b)
theorem call_list_str (hc : X.calm = true) : CallR X (.type "list") rLstS := by
  intro pins s σ H xs us Q I r h
  obtain ⟨z, rfl, hz, q⟩ := h
  obtain ⟨u, rfl, ru⟩ := r.one
  obtain ⟨t, rfl⟩ := ru
  have hh : X.A.handled = none := I.ok.hd hc
  · refine PySem.call_list_str hh z t (fun h' tk acc' c' hk hS hacc => ?_) hz
    have e : (signsOf z).length = z.cps.size := by rw [signsOf, List.length_map, Array.length_toList]
    have hv : Vals ((signsOf z).map V.str) acc'.toList := by
      refine vals_of_ix (by rw [List.length_map, e, Array.length_toList, hacc.1]) fun j x u hx hu => ?_
      obtain ⟨c, tk2, hc, rfl⟩ := hacc.2 j u (by rw [← Array.getElem?_toList]; exact hu)
      rw [signsOf, List.getElem?_map, List.getElem?_map, Array.getElem?_toList, hc] at hx
      cases hx
      exact ⟨tk2, rfl⟩
    refine ⟨.ref s.heap.objs.size, _, I.laid (t' := tk) (o := .lst ((signsOf z).map V.str)) hk (Nat.le_refl _) ?_, rfl, q _ (I.hok.fresh (Nat.le_refl _))⟩
    refine ⟨by rw [List.length_map, e]; exact hz, acc'.toList, c', hv, ?_⟩
    rw [hS] <;> simp
/-! ### text * int -/
def repS (z : Str) (n : Nat) : Str := ⟨((List.replicate n z.cps.toList).flatten).toArray⟩
def rRepS : R2 := fun x y H Q => ∃ z n, x = .str z ∧ y = .int n ∧ 0 ≤ n ∧ n ≤ 1000 ∧ z.length ≤ 1000 ∧ Q (.str (repS z n.toNat)) H
theorem fold_cps (x : Array Nat) : ∀ (n : Nat) (acc : Array Nat), (List.replicate n x).foldl (· ++ ·) acc = acc ++ ((List.replicate n x.toList).flatten).toArray
  | 0, acc => by simp
  | n + 1, acc => by
    rw [List.replicate_succ, List.foldl_cons, fold_cps x n, List.replicate_succ, List.flatten_cons]
    apply Array.toList_inj.mp
    simp
theorem op_repS : OpR X (binaryOp .Mult) rRepS := by
  intro pins s σ H x y v u Q I rx ry h
  obtain ⟨z, n, rfl, rfl, h0, h1, hz, q⟩ := h
  obtain ⟨t, rfl⟩ := rx
  obtain ⟨t', rfl⟩ := ry
  have hzn : z.length * n.toNat ≤ 1000 * 1000 := Nat.mul_le_mul hz (by omega)
  have g : ∀ tk, EP X pins σ Q (.str (repS z n.toNat) tk) { s with toks := s.toks + 1 } := fun tk => ⟨.str _, H, I.tok _, ⟨_, rfl⟩, q⟩
  have g0 : ∀ tk, EP X pins σ Q (.str (repS z n.toNat) tk) s := fun tk => ⟨.str _, H, I, ⟨_, rfl⟩, q⟩
  refine PySem.P.mul_str (by
      have a : ¬ n < -(2 ^ 63 : Int) := by omega
      have b : ¬ n ≥ 2 ^ 63 := by omega
      rw [decide_eq_false a, decide_eq_false b]; rfl) (fun a b => ?_) (fun a b => ?_) ?_
  · have hp : (1000 : Int) ≤ (2 ^ 63 - 1) / n := by
      apply Int.le_ediv_of_mul_le (by omega)
      omega
    omega
  · show decide _ = false
    exact decide_eq_false (by
      have : z.length * n.toNat ≤ 1000000 := hzn
      have : (1000000 : Nat) < sizeLine := by decide
      omega)
  · by_cases a : n < 1
    · rw [if_pos a]
      have e : n.toNat = 0 := by omega
      have e2 : repS z n.toNat = Str.empty := by rw [e]; rfl
      rw [e2] at g
      exact ⟨by decide, g _⟩
    · rw [if_neg a]
      by_cases b : (n == 1 || z.length == 0) = true
      · rw [if_pos b]
        have e2 : repS z n.toNat = z := by
          have b := Bool.or_eq_true_iff.mp b
          rcases b with b | b
          · have e : n = 1 := by simpa using b
            subst e
            show (⟨((List.replicate 1 z.cps.toList).flatten).toArray⟩ : Str) = z
            cases z
            simp
          · have e : z.cps.size = 0 := by simpa [Str.length] using b
            obtain ⟨a⟩ := z
            have e3 : a = #[] := Array.eq_empty_of_size_eq_zero e
            subst e3
            unfold repS
            simp
        rw [e2] at g0
        exact g0 _
      · rw [if_neg b]
        have e2 : repS z n.toNat = ⟨(List.replicate n.toNat z.cps).foldl (· ++ ·) #[]⟩ := by
          rw [fold_cps]
          unfold repS
          simp
        rw [e2] at g
        refine ⟨?_, g _⟩
        rw [fold_cps]
        show (_ : Array Nat).size ≤ _
        have : ((List.replicate n.toNat z.cps.toList).flatten).length = n.toNat * z.cps.size := by simp
        have c : z.cps.size * n.toNat ≤ 1000000 := hzn
        have c2 : z.length = z.cps.size := rfl
        have c3 : z.cps.size * n.toNat = n.toNat * z.cps.size := Nat.mul_comm _ _
        have c4 : (1000000 : Nat) < sizeLine := by decide
        simp only [Array.size_append, List.size_toArray, this, Array.size_empty, List.length_nil]
        omega
end
section
theorem walk_new {n : Nat} {items : Nat → List V} : Walk (Itn n items) n (fun _ => True) (fun i H v H' => ∃ T, v = .ref T ∧ H T = none ∧ H' = upd H T (.tup (items i))) :=
  ⟨fun _ _ hi _ => hi, fun _ _ => rfl, fun _ _ _ _ _ _ y => y⟩
end
end TW
/-! R4 -/
set_option Elab.async false
set_option linter.all false
set_option maxRecDepth 100000
set_option maxHeartbeats 4000000
namespace TW
open PySem PySem.Spec PyProof.Rows L2
/-! ### d.get(k, x), d a written dict with text keys -/
def KAt (K : PySem.W.Frag) (w : World) (d : Addr) : Prop := ∃ es n, K.lookup d = some ⟨.type "dict", none, .dict es n, #[]⟩ ∧ PySem.W.KeysLit w.params es.toList ∧ (d == sysModules) = false
def tKGet (K : PySem.W.Frag) (w : World) (td ty tx : TE) : TE := fun σ H Q => td σ H fun x H1 => ∃ a, x = .ref a ∧ KAt K w a ∧ ty σ H1 fun y H2 => ∃ z, y = .str z ∧ tx σ H2 fun d H3 => ∃ r : Option Value, PySem.W.nsIn K a z = some r ∧ (∀ u, r = some u → ∃ v, RelV v u ∧ Q v H3) ∧ (r = none → Q d H3)
section
variable {X : Cx} {o e f : Expr} {apos cpos : Pos} {td ty tx : TE}
theorem pe_kget2 (ho : PE X o td) (he : PE X e ty) (hf : PE X f tx) (m : M2 X o "get" apos e f cpos) : PE X (.Call (.Attribute o "get" apos) [e, f] [] cpos) (tKGet X.K X.w td ty tx) := by
  refine ⟨fun pins s σ H Q I h => ?_⟩
  refine wpAny_Call_method m.base m.few m.line PySem.F.plainAttrs_dict PySem.F.slot_dict_get PySem.F.type_dict_get (thn (ho.run pins s σ H _ I h) fun u s1 ⟨x, H1, I1, rx, a, ex, ⟨es, n, hl, hk, hd⟩, q1⟩ => ?_)
  subst ex
  obtain rfl : u = Value.ref a := rx
  refine ⟨(PySem.W.mapOf_K (prog := X.prog) (w := X.w) I1.kIn hl hk).typeIs, fun b q => ?_, ?_⟩
  · cases q
    exact ⟨_, I1.kIn _ _ hl, rfl⟩
  rw [m.trees]
  refine Calls.callWith_builtin rfl (Calls.evalArgs_plain (Calls.spliced_cons (thn (he.run pins s1 σ H1 _ I1 q1) fun iv s2 ⟨y, H2, I2, ry, z, ez, q2⟩ =>
    Calls.spliced_cons (thn (hf.run pins s2 σ H2 _ I2 q2) fun fv s3 ⟨d, H3, I3, rd, r, hn, q3, q4⟩ => Calls.spliced_nil ?_))))
  subst ez
  obtain ⟨t, rfl⟩ := ry
  have hm := PySem.W.mapOf_K (prog := X.prog) (w := X.w) I3.kIn hl hk
  refine call_meetsIn PySem.F.slot_dict_get hm.typeIs PySem.F.entry_dict_get (PySem.F.args_dict_get_3 _ _ _) (meets_dict_get_default (strKind X.prog X.w) a (strKind_is X.prog X.w z t) hd fv) ⟨_, hm, ?_⟩
  rw [PySem.W.find_K hl hn]
  cases r with
  | none => exact ⟨d, H3, I3.tok _, rd, q4 rfl⟩
  | some u =>
    obtain ⟨v, rv, q5⟩ := q3 u rfl
    exact ⟨v, H3, I3.tok _, rv, q5⟩
end
end TW
/-! R5 -/
set_option Elab.async false
set_option linter.all false
namespace TW
open PySem PySem.Spec PyProof.Rows L2
/-- {text} in an f-string, a text -/
def tFmtS (te : TE) : TE := fun σ H Q => te σ H fun x H1 => ∃ y : Str, x = .str y ∧ y.length ≤ sizeLine ∧ Q (.str y) H1
section
variable {X : Cx}
theorem pe_fmtS {e : Expr} {te : TE} {pos : Pos} (he : PE X e te) : PE X (.FormattedValue e (-1) none pos) (tFmtS te) := by
  refine ⟨fun pins s σ H Q I h => ?_⟩
  refine wpAny_FormattedValue_plain (thn (he.run pins s σ H _ I h) fun v s1 hv => ?_)
  obtain ⟨x, H1, I1, r1, y, rfl, hz, q⟩ := hv
  obtain ⟨t, rfl⟩ := r1
  exact wpAny_formatField_str ⟨.str y, H1, I1, ⟨t, rfl⟩, q⟩ ⟨.str y, H1, I1.tok _, ⟨_, rfl⟩, q⟩ hz
end
end TW
/-! R6 -/
set_option Elab.async false
set_option linter.all false
namespace TW
open PySem PySem.Spec PyProof.Rows L2
section
variable {X : Cx} {CX : CXT} {k : Nat} {f : Addr} {fd : FuncData} {ps ks : List Str} {sp : Sp} {E : XK} {x : Str} {p pos : Pos} {kws : List Keyword} {tk : TA} {g : List Value → List Value → List Value} {gV : List V → List V → List V}
/-- f(k = v, ..) -/
theorem pe_callK0 (F : FnOk X.prog X.w X.K X.mg X.base CX k f fd ps sp) (hr : Room k X.A) (hg : Gl X x) (hm : X.mg x = some (.ref f)) (hk : PySem.W.keepIn X.K (.ref f) = true) (hb : KBn X.K fd ps 0 ks g gV) (hx : Passes CX X E) (hkw : PK X kws tk)
    (hall : (backToKw pos (keywordEach kws X.env)).all (·.1.isSome) = true := by rfl) (hks : (backToKw pos (keywordEach kws X.env)).filterMap (·.1) = ks := by rfl) (hdb : (x == ("__debug__" : Str)) = false := by decide)
    (hpl : ((backTo pos (starEach [] X.env)).any (·.1) || (backToKw pos (keywordEach kws X.env)).any (·.1.isNone)) = false := by rfl) :
    PE X (.Call (.Name x p) [] kws pos) (tCallN 0 ks.length sp gV E tNil tk) := by
  refine ⟨fun pins s σ H Q I h => ?_⟩
  refine wpAny_Call_Name_kw (ld_glob I hg hm ?_ hdb)
  refine PySem.W.callWith_KW0 (h₀ := X.base) I.ok.mod.kin hk hall ?_ hpl
  refine thn (hkw.run pos pins s σ H _ I h) fun ws s2 ⟨zs, H2, I2, rz, l1, l2, q2⟩ => ⟨I2.kIn, ?_⟩
  rw [hks]
  exact run_fnN (us := []) (vs := []) F hr hb hx I2 .nil rz rfl l2 q2
end
end TW
/-! D1 -/
set_option Elab.async false
set_option linter.all false
set_option maxRecDepth 100000
set_option maxHeartbeats 4000000
namespace TW
open PySem L2
/-! ### nested data: texts and sequences -/
inductive D where
  | s (z : Str)
  | n (ds : List D)
/-! the value v stands for the data d: sequences are tuples, or (m = false) lists -/
mutual
def Rep (m : Bool) (H : Hp) : V → D → Prop
  | v, .s z => v = .str z
  | v, .n ds => ∃ a vs, v = .ref a ∧ (H a = some (.tup vs) ∨ (m = false ∧ H a = some (.lst vs))) ∧ RepL m H vs ds
def RepL (m : Bool) (H : Hp) : List V → List D → Prop
  | vs, [] => vs = []
  | vs, d :: ds => ∃ v r, vs = v :: r ∧ Rep m H v d ∧ RepL m H r ds
end
/-- an item of data is a text or an object -/
def itemV : V → Bool
  | .str _ => true
  | .ref _ => true
  | _ => false
theorem Rep.item {m : Bool} {H : Hp} {v : V} {d : D} (h : Rep m H v d) : itemV v = true := by
  cases d with
  | s z => unfold Rep at h; subst h; rfl
  | n ds => unfold Rep at h; obtain ⟨a, vs, rfl, _⟩ := h; rfl
theorem RepL.len {m : Bool} {H : Hp} : ∀ {ds : List D} {vs : List V}, RepL m H vs ds → vs.length = ds.length
  | [], vs, h => by unfold RepL at h; subst h; rfl
  | d :: ds, vs, h => by
    unfold RepL at h
    obtain ⟨v, r, rfl, _, h2⟩ := h
    simp [RepL.len h2]
theorem RepL.items {m : Bool} {H : Hp} : ∀ {ds : List D} {vs : List V}, RepL m H vs ds → ∀ v ∈ vs, itemV v = true
  | [], vs, h, v, hv => by unfold RepL at h; subst h; cases hv
  | d :: ds, vs, h, v, hv => by
    unfold RepL at h
    obtain ⟨x, r, rfl, h1, h2⟩ := h
    rcases List.mem_cons.mp hv with rfl | hv
    · exact h1.item
    · exact RepL.items h2 v hv
mutual
/-- what carries the tuples (and, m = false, the lists of texts and objects) over carries the data over -/
theorem Rep.keep {m : Bool} {H H' : Hp} (ht : ∀ a vs, H a = some (.tup vs) → H' a = some (.tup vs)) (hl : m = false → ∀ a vs, (∀ v ∈ vs, itemV v = true) → H a = some (.lst vs) → H' a = some (.lst vs)) : ∀ (d : D) (v : V), Rep m H v d → Rep m H' v d
  | .s z, v, h => by unfold Rep at h ⊢; exact h
  | .n ds, v, h => by
    unfold Rep at h ⊢
    obtain ⟨a, vs, rfl, h1, h2⟩ := h
    refine ⟨a, vs, rfl, ?_, RepL.keep ht hl ds vs h2⟩
    rcases h1 with h1 | ⟨e, h1⟩
    · exact .inl (ht _ _ h1)
    · exact .inr ⟨e, hl e _ _ h2.items h1⟩
theorem RepL.keep {m : Bool} {H H' : Hp} (ht : ∀ a vs, H a = some (.tup vs) → H' a = some (.tup vs)) (hl : m = false → ∀ a vs, (∀ v ∈ vs, itemV v = true) → H a = some (.lst vs) → H' a = some (.lst vs)) : ∀ (ds : List D) (vs : List V), RepL m H vs ds → RepL m H' vs ds
  | [], vs, h => by unfold RepL at h ⊢; exact h
  | d :: ds, vs, h => by
    unfold RepL at h ⊢
    obtain ⟨v, r, rfl, h1, h2⟩ := h
    exact ⟨v, r, rfl, Rep.keep ht hl d v h1, RepL.keep ht hl ds r h2⟩
end
mutual
theorem Rep.weak {H : Hp} : ∀ (d : D) (v : V), Rep true H v d → Rep false H v d
  | .s z, v, h => by unfold Rep at h ⊢; exact h
  | .n ds, v, h => by
    unfold Rep at h ⊢
    obtain ⟨a, vs, rfl, h1, h2⟩ := h
    refine ⟨a, vs, rfl, ?_, RepL.weak ds vs h2⟩
    rcases h1 with h1 | ⟨e, h1⟩
    · exact .inl h1
    · cases e
theorem RepL.weak {H : Hp} : ∀ (ds : List D) (vs : List V), RepL true H vs ds → RepL false H vs ds
  | [], vs, h => by unfold RepL at h ⊢; exact h
  | d :: ds, vs, h => by
    unfold RepL at h ⊢
    obtain ⟨v, r, rfl, h1, h2⟩ := h
    exact ⟨v, r, rfl, Rep.weak d v h1, RepL.weak ds r h2⟩
end
theorem Rep.same {m : Bool} {H H' : Hp} {v : V} {d : D} (h : Rep m H v d) (s : Same H H') : Rep m H' v d := Rep.keep (fun a vs e => s _ _ e) (fun _ a vs _ e => s _ _ e) d v h
theorem RepL.same {m : Bool} {H H' : Hp} {vs : List V} {ds : List D} (h : RepL m H vs ds) (s : Same H H') : RepL m H' vs ds := RepL.keep (fun a vs e => s _ _ e) (fun _ a vs _ e => s _ _ e) ds vs h
theorem Rep.strIff {m : Bool} {H : Hp} {v : V} {z : Str} : Rep m H v (.s z) ↔ v = .str z := by unfold Rep; exact Iff.rfl
theorem Rep.seqIff {m : Bool} {H : Hp} {v : V} {ds : List D} : Rep m H v (.n ds) ↔ ∃ a vs, v = .ref a ∧ (H a = some (.tup vs) ∨ (m = false ∧ H a = some (.lst vs))) ∧ RepL m H vs ds := by
  constructor
  · intro h; unfold Rep at h; exact h
  · intro h; unfold Rep; exact h
theorem RepL.nilIff {m : Bool} {H : Hp} {vs : List V} : RepL m H vs [] ↔ vs = [] := by
  constructor
  · intro h; unfold RepL at h; exact h
  · intro h; unfold RepL; exact h
theorem RepL.consIff {m : Bool} {H : Hp} {vs : List V} {d : D} {ds : List D} : RepL m H vs (d :: ds) ↔ ∃ v r, vs = v :: r ∧ Rep m H v d ∧ RepL m H r ds := by
  constructor
  · intro h; unfold RepL at h; exact h
  · intro h; unfold RepL; exact h
theorem RepL.append {m : Bool} {H : Hp} : ∀ {ds es : List D} {vs us : List V}, RepL m H vs ds → RepL m H us es → RepL m H (vs ++ us) (ds ++ es)
  | [], es, vs, us, h, k => by
    have e := RepL.nilIff.mp h
    subst e
    exact k
  | d :: ds, es, vs, us, h, k => by
    obtain ⟨v, r, rfl, h1, h2⟩ := RepL.consIff.mp h
    exact RepL.consIff.mpr ⟨v, r ++ us, rfl, h1, RepL.append h2 k⟩
theorem RepL.one {m : Bool} {H : Hp} {v : V} {d : D} (h : Rep m H v d) : RepL m H [v] [d] := RepL.consIff.mpr ⟨v, [], rfl, h, RepL.nilIff.mpr rfl⟩
theorem RepL.cons {m : Bool} {H : Hp} {v : V} {d : D} {vs : List V} {ds : List D} (h : Rep m H v d) (k : RepL m H vs ds) : RepL m H (v :: vs) (d :: ds) := RepL.consIff.mpr ⟨v, vs, rfl, h, k⟩
theorem RepL.nil {m : Bool} {H : Hp} : RepL m H [] [] := RepL.nilIff.mpr rfl
theorem RepL.get {m : Bool} {H : Hp} : ∀ {ds : List D} {vs : List V} {i : Nat} {d : D}, RepL m H vs ds → ds[i]? = some d → ∃ v, vs[i]? = some v ∧ Rep m H v d
  | [], _, i, _, _, h => by simp at h
  | d :: ds, vs, 0, e, h, k => by
    obtain ⟨v, r, rfl, h1, h2⟩ := RepL.consIff.mp h
    cases k
    exact ⟨v, rfl, h1⟩
  | d :: ds, vs, i + 1, e, h, k => by
    obtain ⟨v, r, rfl, h1, h2⟩ := RepL.consIff.mp h
    exact RepL.get (ds := ds) (vs := r) (i := i) h2 (by simpa using k)
theorem RepL.get' {m : Bool} {H : Hp} : ∀ {ds : List D} {vs : List V} {i : Nat} {v : V}, RepL m H vs ds → vs[i]? = some v → ∃ d, ds[i]? = some d ∧ Rep m H v d
  | [], vs, i, v, h, k => by
    have e := RepL.nilIff.mp h
    subst e
    simp at k
  | d :: ds, vs, 0, v, h, k => by
    obtain ⟨x, r, rfl, h1, h2⟩ := RepL.consIff.mp h
    cases k
    exact ⟨d, rfl, h1⟩
  | d :: ds, vs, i + 1, v, h, k => by
    obtain ⟨x, r, rfl, h1, h2⟩ := RepL.consIff.mp h
    exact RepL.get' (ds := ds) (vs := r) (i := i) h2 (by simpa using k)
/-! ### counters: a list of one int; what draws change -/
/-- all stays but lists of one int at the addresses of l, which stay such lists -/
def Ev (l : List Addr) (H H' : Hp) : Prop := ∀ b o, H b = some o → H' b = some o ∨ (b ∈ l ∧ ∃ i j : Int, o = .lst [.int i] ∧ H' b = some (.lst [.int j]))
theorem Ev.refl {l : List Addr} (H : Hp) : Ev l H H := fun _ _ e => .inl e
theorem Ev.of_same {l : List Addr} {H H' : Hp} (s : Same H H') : Ev l H H' := fun b o e => .inl (s b o e)
theorem Ev.trans {l : List Addr} {H H1 H2 : Hp} (a : Ev l H H1) (b : Ev l H1 H2) : Ev l H H2 := fun c o e => by
  rcases a c o e with h | ⟨hm, i, j, rfl, h⟩
  · exact b c o h
  · rcases b c _ h with h' | ⟨_, i', j', e', h'⟩
    · exact .inr ⟨hm, i, j, rfl, h'⟩
    · exact .inr ⟨hm, i, j', rfl, h'⟩
theorem Ev.mono {l l' : List Addr} {H H' : Hp} (h : Ev l H H') (s : ∀ b ∈ l, b ∈ l') : Ev l' H H' := fun b o e => by
  rcases h b o e with h | ⟨hm, r⟩
  · exact .inl h
  · exact .inr ⟨s b hm, r⟩
theorem Ev.out {l : List Addr} {H H' : Hp} (h : Ev l H H') {b : Addr} {o : HO} (e : H b = some o) (n : b ∉ l) : H' b = some o := by
  rcases h b o e with h | ⟨hm, _⟩
  · exact h
  · exact absurd hm n
theorem Ev.obj {l : List Addr} {H H' : Hp} (h : Ev l H H') {b : Addr} {o : HO} (e : H b = some o) (n : ∀ i : Int, o ≠ .lst [.int i]) : H' b = some o := by
  rcases h b o e with h | ⟨_, i, _, rfl, _⟩
  · exact h
  · exact absurd rfl (n i)
theorem Ev.ctr {l : List Addr} {H H' : Hp} (h : Ev l H H') {b : Addr} {i : Int} (e : H b = some (.lst [.int i])) : ∃ j : Int, H' b = some (.lst [.int j]) := by
  rcases h b _ e with h | ⟨_, _, j, _, h⟩
  · exact ⟨i, h⟩
  · exact ⟨j, h⟩
theorem Ev.new {l : List Addr} {H : Hp} {p : Addr} (h : H p = none) (o : HO) : Ev l H (upd H p o) := fun b u e => .inl (by rw [upd_ne (ne_of_none e h)]; exact e)
theorem Ev.set {l : List Addr} {H : Hp} {a : Addr} {i : Int} (e : H a = some (.lst [.int i])) (hm : a ∈ l) (j : Int) : Ev l H (upd H a (.lst [.int j])) := fun b o q => by
  by_cases hb : b = a
  · subst hb
    rw [e] at q
    cases q
    exact .inr ⟨hm, i, j, rfl, upd_same⟩
  · exact .inl (by rw [upd_ne hb]; exact q)
theorem Ev.free {l : List Addr} {H H' : Hp} (h : Ev l H H') {p : Addr} (q : H' p = none) : H p = none := by
  cases e : H p with
  | none => rfl
  | some o =>
    rcases h p o e with k | ⟨_, _, _, _, k⟩
    · rw [q] at k; cases k
    · rw [q] at k; cases k
theorem Rep.ev {m : Bool} {H H' : Hp} {l : List Addr} {v : V} {d : D} (h : Rep m H v d) (s : Ev l H H') : Rep m H' v d := Rep.keep (fun a vs e => s.obj e fun i => by simp) (fun _ a vs hv e => s.obj e fun i q => by
  have e2 : vs = [.int i] := by simpa using q
  subst e2
  exact Bool.false_ne_true (hv _ List.mem_cons_self)) d v h
theorem RepL.ev {m : Bool} {H H' : Hp} {l : List Addr} {vs : List V} {ds : List D} (h : RepL m H vs ds) (s : Ev l H H') : RepL m H' vs ds := RepL.keep (fun a vs e => s.obj e fun i => by simp) (fun _ a vs hv e => s.obj e fun i q => by
  have e2 : vs = [.int i] := by simpa using q
  subst e2
  exact Bool.false_ne_true (hv _ List.mem_cons_self)) ds vs h
theorem same_new {H : Hp} {p : Addr} (h : H p = none) (o : HO) : Same H (upd H p o) := fun b u q => by rw [upd_ne (ne_of_none q h)]; exact q
end TW
/-! E1 -/
set_option Elab.async false
set_option linter.all false
set_option maxRecDepth 100000
set_option maxHeartbeats 4000000
namespace TW
open PySem L2
local macro_rules | `(tactic| walk_at "rd") => `(tactic| simp only [tSeq, tAsg, tOp, tUn, tVar, tCB, tCons, tNil, tRet, tDrop, gName, gSub, gTup, gCons, gNil, rI, rI0, rU, rIxL, rIxT, rIxS, rSetL, tC, L2.start, cxOf, tIfS, tIf, tTest, tB, tAnd, tOr, tNot, tAndV, tOrV, tNotV, tChain, tTup, tLst, tCall, tNext, tNever,
  rEq, rNe, tBM, tBM0, rCat, rRep, rIn, tSl, rSlL, rSlT, rSlS, rAll, rAny, rSortedS, rAppend, rPop, rExtend, tyV, tFld, tM1, tFmt, tJs, tRev, tKGet, rRvL, rRvT, rRvS, rExtendT, rLstS, rRepS, tNoPart, tPart, tYes, StX.tStar, wipe, rIx,
  List.map, List.length, List.replicate, List.append, List.nil_append, List.cons_append, List.append_nil, List.set, Nat.zero_add, Nat.add_zero, Nat.reduceAdd, Nat.reduceSub, List.getElem?_cons_zero, List.getElem?_cons_succ, List.length_cons, List.length_nil, List.set_cons_zero, List.set_cons_succ, List.getElem?_nil, Option.some.injEq, V.ref.injEq, V.int.injEq, V.str.injEq, V.bl.injEq, List.cons.injEq, and_true, true_and, exists_eq_left, exists_eq_left', exists_eq', exists_eq, exists_and_left, exists_const, reduceCtorEq, false_or, or_false, true_or, or_true, false_and, and_false, and_assoc, if_true, if_false, Bool.false_eq_true, Bool.true_eq_false])
local macro_rules | `(tactic| walk_at "rdd") => `(tactic| simp only [tSeq, tAsg, tOp, tUn, tVar, tCB, tCons, tNil, tRet, tDrop, gName, gSub, gTup, gCons, gNil, rI, rI0, rU, rIxL, rIxT, rIxS, rSetL, tC, L2.start, cxOf, tIfS, tIf, tTest, tB, tAnd, tOr, tNot, tAndV, tOrV, tNotV, tChain, tTup, tLst, tCall, tNext, tNever,
  rEq, rNe, tBM, tBM0, rCat, rRep, rIn, tSl, rSlL, rSlT, rSlS, rAll, rAny, rSortedS, rAppend, rPop, rExtend, tyV, tFld, tM1, tFmt, tJs, tRev, tKGet, rRvL, rRvT, rRvS, rExtendT, rLstS, rRepS, tNoPart, tPart, tYes, StX.tStar, wipe, rIx, tFor, tWhile, tLc, iList, iTup, iSeq, iStr, iRng1, iRng2, iEnumS, iZipS,
  List.map, List.length, List.replicate, List.append, List.nil_append, List.cons_append, List.append_nil, List.set, Nat.zero_add, Nat.add_zero, Nat.reduceAdd, Nat.reduceSub, List.getElem?_cons_zero, List.getElem?_cons_succ, List.length_cons, List.length_nil, List.set_cons_zero, List.set_cons_succ, List.getElem?_nil, Option.some.injEq, V.ref.injEq, V.int.injEq, V.str.injEq, V.bl.injEq, List.cons.injEq, and_true, true_and, exists_eq_left, exists_eq_left', exists_eq', exists_eq, exists_and_left, exists_const, reduceCtorEq, false_or, or_false, true_or, or_true, false_and, and_false, and_assoc, if_true, if_false, Bool.false_eq_true, Bool.true_eq_false])
section
variable {P : Program} {w : World} {K : PySem.W.Frag} {mg : Str → Option Value} {base : Heap} {f : Addr} {fd : FuncData}
/-! ### draws -/
def Ints (H : Hp) (r : Addr) (n : Nat) : Prop := ∃ ns : List Int, H r = some (.lst (ns.map V.int)) ∧ ns.length = n
structure Dr (H : Hp) (r a : Addr) : Prop where
  row : ∃ ns : List Int, H r = some (.lst (ns.map V.int)) ∧ 1 < ns.length
  at_ : ∃ j : Int, H a = some (.lst [.int j])
theorem Dr.ev {H H' : Hp} {r a : Addr} {l : List Addr} (d : Dr H r a) (e : Ev l H H') : Dr H' r a := by
  obtain ⟨⟨ns, h1, h2⟩, j, h3⟩ := d
  refine ⟨⟨ns, e.obj h1 fun i q => ?_, h2⟩, e.ctr h3⟩
  have q2 : ns.map V.int = [.int i] := by simpa using q
  have q3 := congrArg List.length q2
  rw [List.length_map] at q3
  simp at q3
  omega
theorem int_at {ns : List Int} {i : Nat} {x : V} (h : (ns.map V.int)[i]? = some x) : ∃ y, ns[i]? = some y ∧ x = V.int y := by
  rw [List.getElem?_map] at h
  cases e : ns[i]? with
  | none => rw [e] at h; cases h
  | some y => rw [e] at h; exact ⟨y, rfl, (Option.some.inj h).symm⟩
def spDraw : Sp := fun vs H Q _ => ∃ (r a : Addr) (n : Int), vs = [.ref r, .ref a, .int n] ∧ Dr H r a ∧ 0 < n ∧ ∀ (v : Int) (H' : Hp), 0 ≤ v → v < n → Ev [a] H H' → Q (.int v) H'
theorem ok_draw (F : Fun K "_law_draw" "_law_draw" s__law_draw f fd) (T : Bt mg) : FnOk P w K mg base CX0 1 f fd ["row", "at", "size"] spDraw := by
  refine F.ok sc__law_draw (fun vs H Q E h => ?_) (fun cdv A outer s H vs Q E hr h => ?_)
  · obtain ⟨r, a, n, rfl, _⟩ := h
    rfl
  obtain ⟨r, a, n, rfl, ⟨⟨ns, hrow, hn⟩, j, ha⟩, hpos, k⟩ := h
  refine ⟨_, (pss_cons (ps_set (i := 3) sc__law_draw.nd rfl (by first | exact Or.inl rfl | exact Or.inr rfl) (pe_op op_mod (pe_callTy call_int1 (by rfl) T.b_int (by decide +kernel) (pa_cons (pe_ix (r := rIxL K) ix_list (pv 0) (pe_op op_mod (pe_ix (r := rIxL K) ix_list (pv 1) pe_int (fun _ _ => rfl)) (pe_callB call_len_seq (by rfl) T.b_len PySem.boot_len (pa_cons (pv 0) pa_nil))) (fun _ _ => rfl)) pa_nil)) (pv 2)))
        (pss_cons (ps_asg (pe_op op_add (pe_ix (r := rIxL K) ix_list (pv 1) pe_int (fun _ _ => rfl)) pe_int) (pg_sub (pv 1) pe_int set_list))
        (pss_one (ps_ret (pv 3))))), ?_⟩
  walk_at "rd"
  have hl : (0 : Int) < ((ns.map V.int).length : Nat) := by rw [List.length_map]; omega
  have h0 : 0 ≤ j % ((ns.map V.int).length : Nat) := Int.emod_nonneg _ (by omega)
  have h1 : j % ((ns.map V.int).length : Nat) < ((ns.map V.int).length : Nat) := Int.emod_lt_of_pos _ hl
  rw [List.length_map] at h0 h1
  obtain ⟨z, hz⟩ : ∃ z, ns[(j % (ns.length : Nat)).toNat]? = some z := ⟨_, List.getElem?_eq_getElem (by omega)⟩
  have hat : atI (ns.map V.int) (j % ((ns.map V.int).length : Nat)) = some (.int z) := by
    rw [List.length_map]
    refine at_of (j := (j % (ns.length : Nat)).toNat) (by omega) ?_
    rw [List.getElem?_map, hz] <;> rfl
  refine ⟨_, SqL.of ha, _, rfl, _, .inl (SqL.of hrow), j, rfl, hl, _, SqL.of hrow, _, hat, .inl ⟨z, rfl, hpos, _, SqL.of ha, _, rfl, j, rfl, _, ha, 0, rfl, ?_⟩⟩
  exact k _ _ (Int.emod_nonneg _ (by omega)) (Int.emod_lt_of_pos _ hpos) (Ev.set ha List.mem_cons_self _)
def spCell (K : PySem.W.Frag) : Sp := fun vs H Q _ => ∃ (s : Addr) (ns : List Int) (k : Int), vs = [.ref s, .int k] ∧ SqL K H s (ns.map V.int) ∧ 0 ≤ k ∧ k ≤ 1000 ∧ ∀ v : Int, Q (.int v) H
theorem ok_cell (F : Fun K "_law_cell" "_law_cell" s__law_cell f fd) (T : Bt mg) : FnOk P w K mg base CX0 1 f fd ["script", "k"] (TW.spCell K) := by
  refine F.ok sc__law_cell (fun vs H Q E h => ?_) (fun cdv A outer s H vs Q E hr h => ?_)
  · obtain ⟨s, ns, k, rfl, _⟩ := h
    rfl
  obtain ⟨sa, ns, kk, rfl, hs, h0, h1, q⟩ := h
  refine ⟨_, (pss_cons (ps_if (pt_cmpR op_lt (pv 1) (pe_callB call_len_seq (by rfl) T.b_len PySem.boot_len (pa_cons (pv 0) pa_nil)) (nomark _)) (pss_one (ps_ret (pe_ix (r := rIxL K) ix_list (pv 0) (pv 1) (fun _ _ => rfl)))) pss_nil)
        (pss_cons (ps_set (i := 2) sc__law_cell.nd rfl (by first | exact Or.inl rfl | exact Or.inr rfl) pe_int)
        (pss_cons (ps_for PassesOwn.never (by rfl) (pi_list (pv 0)) (pg_name (i := 3) sc__law_cell.nd rfl (by first | exact Or.inl rfl | exact Or.inr rfl)) (pss_one (ps_set (i := 2) sc__law_cell.nd rfl (by first | exact Or.inl rfl | exact Or.inr rfl) (pe_op op_mod (pe_callTy call_int1 (by rfl) T.b_int (by decide +kernel) (pa_cons (pe_op op_add (pe_op op_mul (pv 2) pe_int) (pe_op op_mod (pe_callTy call_int1 (by rfl) T.b_int (by decide +kernel) (pa_cons (pv 3) pa_nil)) pe_int)) pa_nil)) pe_int))))
        (pss_one (ps_ret (pe_op op_mod (pe_callTy call_int1 (by rfl) T.b_int (by decide +kernel) (pa_cons (pe_op op_mul (pe_op op_mul (pe_op op_add (pv 2) pe_int) (pe_op op_add (pv 1) pe_int)) pe_int) pa_nil)) pe_int)))))), ?_⟩
  walk_at "rd"
  refine ⟨_, .inl hs, ite2 (fun c => ?_) (fun c => ?_)⟩
  · have c' : kk < ((ns.map V.int).length : Nat) := of_decide_eq_true c
    rw [List.length_map] at c'
    have hk : kk.toNat < ns.length := by omega
    refine ⟨_, hs, V.int ns[kk.toNat], at_of (j := kk.toNat) (by omega) (by rw [List.getElem?_map, List.getElem?_eq_getElem hk] <;> rfl), q _⟩
  · refine ⟨_, rfl, sa, rfl, ⟨_, hs⟩, for_list (K := K) (a := sa) (xs := ns.map V.int) (fun i σ H' => ∃ (z : Int) (c : Option V), 0 ≤ z ∧ z < 1000003 ∧ σ = [some (.ref sa), some (.int kk), some (.int z), c] ∧ H' = H) ⟨17, none, by omega, by omega, rfl, rfl⟩ (fun i σ H' _ ⟨_, _, _, _, _, e⟩ => e ▸ hs) ?_ ?_⟩
    · rintro i x σ H' hi ⟨z, c, hz0, hz1, rfl, rfl⟩
      obtain ⟨y, _, rfl⟩ := int_at hi
      walk_at "rd"
      exact ⟨.inr ⟨by omega, by omega⟩, by omega, by omega, _, Int.emod_nonneg _ (by omega), Int.emod_lt_of_pos _ (by omega), rfl⟩
    · rintro σ H' ⟨z, c, hz0, hz1, rfl, rfl⟩
      walk_at "rd"
      exact ⟨.inl ⟨by omega, by omega⟩, .inr ⟨by omega, by omega⟩, by omega, q _⟩
def spDigits : Sp := fun vs H Q _ => ∃ (c : Int) (z : Addr), vs = [.int c, .ref z] ∧ H z = some (.lst (List.replicate 60 (.int 24))) ∧ ∀ (p : Addr) (ns : List Int) (H' : Hp), Same H H' → H' p = some (.lst (ns.map V.int)) → ns.length = 60 → Q (.ref p) H'
theorem rep_at {i n : Nat} {x y : V} (h : (List.replicate n x)[i]? = some y) : y = x := by
  rw [List.getElem?_replicate] at h
  split at h
  · exact (Option.some.inj h).symm
  · cases h
theorem ok_digits (F : Fun K "_law_digits" "_law_digits" s__law_digits f fd) (T : Bt mg) : FnOk P w K mg base CX0 1 f fd ["cell", "sizes"] spDigits := by
  refine F.ok sc__law_digits (fun vs H Q E h => ?_) (fun cdv A outer s H vs Q E hr h => ?_)
  · obtain ⟨c, z, rfl, _⟩ := h
    rfl
  obtain ⟨cc, za, rfl, hz, q⟩ := h
  refine ⟨_, (pss_cons (ps_set (i := 2) sc__law_digits.nd rfl (by first | exact Or.inl rfl | exact Or.inr rfl) (pe_lst pa_nil))
        (pss_cons (ps_set (i := 3) sc__law_digits.nd rfl (by first | exact Or.inl rfl | exact Or.inr rfl) (pe_callTy call_int1 (by rfl) T.b_int (by decide +kernel) (pa_cons (pv 0) pa_nil)))
        (pss_cons (ps_if (pt_cmpR op_ge (pv 3) (pe_op op_pow pe_int pe_int) (nomark _)) (pss_cons (ps_set (i := 3) sc__law_digits.nd rfl (by first | exact Or.inl rfl | exact Or.inr rfl) (pe_op op_sub (pv 3) (pe_op op_pow pe_int pe_int)))
          (pss_cons (ps_for PassesOwn.never (by rfl) (pi_list (pv 1)) (pg_name (i := 4) sc__law_digits.nd rfl (by first | exact Or.inl rfl | exact Or.inr rfl)) (pss_cons (ps_expr (pe_bm PySem.F.plainAttrs_list PySem.F.slot_list_append PySem.F.type_list_append mt_append (pv 2) (pa_cons (pe_op op_mod (pe_callTy call_int1 (by rfl) T.b_int (by decide +kernel) (pa_cons (pv 3) pa_nil)) (pv 4)) pa_nil)))
            (pss_one (ps_set (i := 3) sc__law_digits.nd rfl (by first | exact Or.inl rfl | exact Or.inr rfl) (pe_op op_fdiv (pe_callTy call_int1 (by rfl) T.b_int (by decide +kernel) (pa_cons (pv 3) pa_nil)) (pv 4))))))
          (pss_one (ps_ret (pv 2))))) pss_nil)
        (pss_cons (ps_set (i := 5) sc__law_digits.nd rfl (by first | exact Or.inl rfl | exact Or.inr rfl) (pe_op op_mod (pe_callTy call_int1 (by rfl) T.b_int (by decide +kernel) (pa_cons (pv 3) pa_nil)) pe_int))
        (pss_cons (ps_for PassesOwn.never (by rfl) (pi_range1 (by rfl) T.b_range (pa_cons (pe_callB call_len_seq (by rfl) T.b_len PySem.boot_len (pa_cons (pv 1) pa_nil)) pa_nil)) (pg_name (i := 6) sc__law_digits.nd rfl (by first | exact Or.inl rfl | exact Or.inr rfl)) (pss_cons (ps_set (i := 5) sc__law_digits.nd rfl (by first | exact Or.inl rfl | exact Or.inr rfl) (pe_op op_mod (pe_callTy call_int1 (by rfl) T.b_int (by decide +kernel) (pa_cons (pe_op op_add (pe_op op_add (pe_op op_mul (pv 5) pe_int) (pe_op op_mul pe_int (pv 6))) pe_int) pa_nil)) pe_int))
          (pss_cons (ps_set (i := 7) sc__law_digits.nd rfl (by first | exact Or.inl rfl | exact Or.inr rfl) (pe_op op_mod (pe_callTy call_int1 (by rfl) T.b_int (by decide +kernel) (pa_cons (pe_op op_mul (pv 5) (pe_op op_add (pe_op op_fdiv (pv 5) pe_int) pe_int)) pa_nil)) pe_int))
          (pss_one (ps_expr (pe_bm PySem.F.plainAttrs_list PySem.F.slot_list_append PySem.F.type_list_append mt_append (pv 2) (pa_cons (pe_op op_mod (pe_op op_fdiv (pv 7) pe_int) (pe_ix (r := rIxL K) ix_list (pv 1) (pv 6) (fun _ _ => rfl))) pa_nil)))))))
        (pss_one (ps_ret (pv 2)))))))), ?_⟩
  walk_at "rd"
  refine ⟨by decide, fun p hp => ⟨⟨by decide, by decide, by decide⟩, ite2 (fun c => ?_) (fun c => ?_)⟩⟩
  · have hzp : za ≠ p := ne_of_none hz hp
    refine ⟨⟨by decide, by decide, by decide⟩, ?_⟩
    refine ⟨_, rfl, za, rfl, ⟨_, SqL.of ((upd_ne hzp).trans hz)⟩, for_list (K := K) (a := za) (xs := List.replicate 60 (.int 24)) (fun i σ H' => ∃ (r : Int) (c : Option V) (ns : List Int), σ = [some (.int cc), some (.ref za), some (.ref p), some (.int r), c, none, none, none] ∧ ns.length = i ∧ H' = upd H p (.lst (ns.map V.int))) ⟨_, none, [], rfl, rfl, rfl⟩ (fun i σ H' _ ⟨_, _, _, _, _, e⟩ => e ▸ SqL.of ((upd_ne hzp).trans hz)) ?_ ?_⟩
    · rintro i x σ H' hi ⟨r, c, ns, rfl, hl, rfl⟩
      have e := rep_at hi
      subst e
      have hi60 : i < 60 := by
        have := (List.getElem?_eq_some_iff.mp hi).1
        simpa using this
      walk_at "rd"
      refine ⟨.inl ⟨_, SqL.of upd_same⟩, by decide, _, upd_same, by rw [List.length_map]; exact small1000 (by omega), ⟨by decide, by decide⟩, ns ++ [r % 24], by simp [hl], ?_⟩
      rw [upd_upd, List.map_append] <;> rfl
    · rintro σ H' ⟨r, c, ns, rfl, hl, rfl⟩
      walk_at "rd"
      exact q p ns _ (same_new hp _) upd_same (by simpa using hl)
  · have hzp : za ≠ p := ne_of_none hz hp
    refine ⟨by decide, ?_⟩
    refine ⟨_, rfl, za, rfl, _, .inl (SqL.of ((upd_ne hzp).trans hz)), 60, ?_, by decide, by decide, for_range (lo := 0) (n := 60) (fun i σ H' => ∃ (z : Int) (c d : Option V) (ns : List Int), 0 ≤ z ∧ z < 2147483648 ∧ σ = [some (.int cc), some (.ref za), some (.ref p), some (.int cc), none, some (.int z), c, d] ∧ ns.length = i ∧ H' = upd H p (.lst (ns.map V.int))) ⟨_, none, none, [], Int.emod_nonneg _ (by omega), ?_, rfl, rfl, rfl⟩ ?_ ?_⟩
    · simp
    · have := Int.emod_lt_of_pos cc (show (0 : Int) < 2147483629 by omega)
      omega
    · rintro i σ H' hi ⟨z, c, d, ns, hz0, hz1, rfl, hl, rfl⟩
      walk_at "rd"
      have m0 := Int.emod_nonneg (z * 48271 + 974711 * (0 + (i : Int)) + 12345) (show (2147483647 : Int) ≠ 0 by omega)
      have m1 := Int.emod_lt_of_pos (z * 48271 + 974711 * (0 + (i : Int)) + 12345) (show (0 : Int) < 2147483647 by omega)
      generalize (z * 48271 + 974711 * (0 + (i : Int)) + 12345) % 2147483647 = mm at *
      have hat : atI (List.replicate 60 (V.int 24)) (0 + (i : Int)) = some (.int 24) := at_of (j := i) (by omega) (by rw [List.getElem?_replicate, if_pos hi])
      refine ⟨.inr ⟨by omega, by omega⟩, .inl ⟨by omega, by omega⟩, by omega, ⟨by omega, by omega⟩, .inl ⟨by omega, by omega⟩, by omega, .inl ⟨_, SqL.of upd_same⟩, ⟨by omega, by omega⟩, _, SqL.of ((upd_ne hzp).trans hz), _, hat, 24, rfl, by omega, _, upd_same,
        by rw [List.length_map]; exact small1000 (by omega), mm, m0, by omega, rfl, ns ++ [mm * (mm / 65537 + 3) % 2147483629 / 19 % 24], by rw [List.length_append, hl]; rfl, ?_⟩
      rw [upd_upd, List.map_append] <;> rfl
    · rintro σ H' ⟨z, c, d, ns, hz0, hz1, rfl, hl, rfl⟩
      walk_at "rd"
      exact q p ns _ (same_new hp _) upd_same hl
def spRow (K : PySem.W.Frag) : Sp := fun vs H Q _ => ∃ (s : Addr) (ns : List Int) (k m : Int), vs = [.ref s, .int k, .int m] ∧ SqL K H s (ns.map V.int) ∧ 0 ≤ k ∧ k ≤ 100 ∧ 0 ≤ m ∧ m ≤ 10 ∧
  ∀ (p : Addr) (ns : List Int) (H' : Hp), Same H H' → H' p = some (.lst (ns.map V.int)) → ns.length = 60 * m.toNat → Q (.ref p) H'
theorem ok_row (F : Fun K "_law_row" "_law_row" s__law_row f fd) (T : Bt mg) (C__law_cell : Cl P w K mg base "_law_cell" 1 ["script", "k"] (TW.spCell K)) (C__law_digits : Cl P w K mg base "_law_digits" 1 ["cell", "sizes"] spDigits) :
    FnOk P w K mg base CX0 2 f fd ["script", "first", "many"] (spRow K) := by
  refine F.ok sc__law_row (fun vs H Q E h => ?_) (fun cdv A outer s H vs Q E hr h => ?_)
  · obtain ⟨s, ns, k, m, rfl, _⟩ := h
    rfl
  obtain ⟨sa, ns, kk, mm, rfl, hs, h0, h1, hm0, hm1, q⟩ := h
  refine ⟨_, (pss_cons (ps_set (i := 3) sc__law_row.nd rfl (by first | exact Or.inl rfl | exact Or.inr rfl) (pe_lst pa_nil))
        (pss_cons (ps_for PassesOwn.never (by rfl) (pi_range1 (by rfl) T.b_range (pa_cons (pv 2) pa_nil)) (pg_name (i := 4) sc__law_row.nd rfl (by first | exact Or.inl rfl | exact Or.inr rfl)) (pss_one (ps_set (i := 3) sc__law_row.nd rfl (by first | exact Or.inl rfl | exact Or.inr rfl) (pe_op op_cat (pv 3) (pe_call C__law_digits.ok (hr.mono (by omega)) (by rfl) C__law_digits.mg C__law_digits.kp C__law_digits.b .nil pass0 (pa_cons (pe_call C__law_cell.ok (hr.mono (by omega)) (by rfl) C__law_cell.mg C__law_cell.kp C__law_cell.b .nil pass0 (pa_cons (pv 0) (pa_cons (pe_op op_add (pv 1) (pv 4)) pa_nil))) (pa_cons (pe_op op_rep (pe_lst (pa_cons pe_int pa_nil)) pe_int) pa_nil)))))))
        (pss_one (ps_ret (pv 3))))), ?_⟩
  walk_at "rd"
  refine ⟨by decide, fun p hp => ?_⟩
  refine ⟨_, rfl, mm, rfl, by omega, by omega, for_range (lo := 0) (n := mm.toNat) (fun i σ H' => ∃ (c : Option V) (p : Addr) (ns : List Int), σ = [some (.ref sa), some (.int kk), some (.int mm), some (.ref p), c] ∧ ns.length = 60 * i ∧ Same H H' ∧ H' p = some (.lst (ns.map V.int))) ⟨none, p, [], rfl, rfl, same_new hp _, upd_same⟩ ?_ ?_⟩
  · rintro i σ H' hi ⟨c, p, ms, rfl, hl, hS, hp⟩
    walk_at "rd"
    refine ⟨sa, ns, kk + (0 + (i : Int)), rfl, hS.seq hs, by omega, by omega, fun v => ?_⟩
    refine ⟨by decide, fun p1 hp1 => ⟨_, upd_same, by decide, by decide, by decide, fun p2 hp2 => ⟨v, p2, rfl, upd_same, fun p3 ms2 H3 s3 e3 l3 => ⟨p3, rfl, ms.map V.int, s3 _ _ (same_new hp2 _ _ _ (same_new hp1 _ _ _ hp)), _, e3, ?_, fun p4 hp4 => ⟨ms ++ ms2, ?_, ?_, ?_⟩⟩⟩⟩⟩
    · rw [List.length_map, List.length_map]
      exact Nat.le_of_lt (small1000 (n := ms.length + ms2.length) (by omega))
    · rw [List.length_append, hl, l3]
      omega
    · exact hS.trans ((same_new hp1 _).trans ((same_new hp2 _).trans (s3.trans (same_new hp4 _))))
    · rw [upd_same, List.map_append]
  · rintro σ H' ⟨c, p, ms, rfl, hl, hS, hp⟩
    walk_at "rd"
    exact q p ms H' hS hp hl
end
end TW
/-! E2 -/
set_option Elab.async false
set_option linter.all false
set_option maxRecDepth 100000
set_option maxHeartbeats 4000000
namespace TW
open PySem L2 TL
local macro_rules | `(tactic| walk_at "rd") => `(tactic| simp only [tSeq, tAsg, tOp, tUn, tVar, tCB, tCons, tNil, tRet, tDrop, gName, gSub, gTup, gCons, gNil, rI, rI0, rU, rIxL, rIxT, rIxS, rSetL, tC, L2.start, cxOf, tIfS, tIf, tTest, tB, tAnd, tOr, tNot, tAndV, tOrV, tNotV, tChain, tTup, tLst, tCall, tNext, tNever,
  rEq, rNe, tBM, tBM0, rCat, rRep, rIn, tSl, rSlL, rSlT, rSlS, rAll, rAny, rSortedS, rAppend, rPop, rExtend, tyV, tFld, tM1, tFmt, tJs, tRev, tKGet, rRvL, rRvT, rRvS, rExtendT, rLstS, rRepS, tNoPart, tPart, tYes, StX.tStar, wipe, rIx,
  List.map, List.length, List.replicate, List.append, List.nil_append, List.cons_append, List.append_nil, List.set, Nat.zero_add, Nat.add_zero, Nat.reduceAdd, Nat.reduceSub, List.getElem?_cons_zero, List.getElem?_cons_succ, List.length_cons, List.length_nil, List.set_cons_zero, List.set_cons_succ, List.getElem?_nil, Option.some.injEq, V.ref.injEq, V.int.injEq, V.str.injEq, V.bl.injEq, List.cons.injEq, and_true, true_and, exists_eq_left, exists_eq_left', exists_eq', exists_eq, exists_and_left, exists_const, reduceCtorEq, false_or, or_false, true_or, or_true, false_and, and_false, and_assoc, if_true, if_false, Bool.false_eq_true, Bool.true_eq_false])
local macro_rules | `(tactic| walk_at "rdd") => `(tactic| simp only [tSeq, tAsg, tOp, tUn, tVar, tCB, tCons, tNil, tRet, tDrop, gName, gSub, gTup, gCons, gNil, rI, rI0, rU, rIxL, rIxT, rIxS, rSetL, tC, L2.start, cxOf, tIfS, tIf, tTest, tB, tAnd, tOr, tNot, tAndV, tOrV, tNotV, tChain, tTup, tLst, tCall, tNext, tNever,
  rEq, rNe, tBM, tBM0, rCat, rRep, rIn, tSl, rSlL, rSlT, rSlS, rAll, rAny, rSortedS, rAppend, rPop, rExtend, tyV, tFld, tM1, tFmt, tJs, tRev, tKGet, rRvL, rRvT, rRvS, rExtendT, rLstS, rRepS, tNoPart, tPart, tYes, StX.tStar, wipe, rIx, tFor, tWhile, tLc, iList, iTup, iSeq, iStr, iRng1, iRng2, iEnumS, iZipS,
  List.map, List.length, List.replicate, List.append, List.nil_append, List.cons_append, List.append_nil, List.set, Nat.zero_add, Nat.add_zero, Nat.reduceAdd, Nat.reduceSub, List.getElem?_cons_zero, List.getElem?_cons_succ, List.length_cons, List.length_nil, List.set_cons_zero, List.set_cons_succ, List.getElem?_nil, Option.some.injEq, V.ref.injEq, V.int.injEq, V.str.injEq, V.bl.injEq, List.cons.injEq, and_true, true_and, exists_eq_left, exists_eq_left', exists_eq', exists_eq, exists_and_left, exists_const, reduceCtorEq, false_or, or_false, true_or, or_true, false_and, and_false, and_assoc, if_true, if_false, Bool.false_eq_true, Bool.true_eq_false])
section
variable {P : Program} {w : World} {K : PySem.W.Frag} {mg : Str → Option Value} {base : Heap} {f : Addr} {fd : FuncData}
theorem at_ofN {α : Type} {xs : List α} {j : Nat} {v : α} (h : xs[j]? = some v) : atI xs (j : Int) = some v := by
  have hj : j < xs.length := (List.getElem?_eq_some_iff.mp h).1
  unfold atI ixN
  rw [if_pos (by omega), if_pos (by omega), Int.toNat_natCast]
  exact h
theorem tl_cat (x y : Str) : tl (x ++ y) = tl x ++ tl y := tl_append x y
theorem tl_ext {x y : Str} (h : tl x = tl y) : x = y := by
  obtain ⟨a⟩ := x
  obtain ⟨b⟩ := y
  exact congrArg Str.mk (Array.toList_inj.mp h)
theorem len_tl (x : Str) : x.length = (tl x).length := (Array.length_toList).symm
theorem joinL_nil : ∀ (l : List (List Nat)), joinL [] l = l.flatten
  | [] => rfl
  | [p] => by simp [joinL]
  | p :: q :: r => by
    show p ++ ([] ++ joinL [] (q :: r)) = _
    rw [joinL_nil (q :: r)]
    simp
theorem tl_empty : tl (Str.ofString "") = [] := by decide +kernel
theorem tl_join0 (ys : List Str) : tl (Txt.join (Str.ofString "") ys) = (ys.map tl).flatten := by
  rw [join_eq, tl_join, tl_empty, joinL_nil]
theorem strs_ne {ys : List Str} (i : Int) : (HO.lst (ys.map V.str)) ≠ .lst [.int i] := fun q => by
  cases ys with
  | nil => simp at q
  | cons y r => simp at q
def Sgns (al : Str) (ys : List Str) : Prop := ∀ y ∈ ys, ∃ c ∈ tl al, y = ⟨#[c]⟩
theorem Sgns.len {al : Str} : ∀ {ys : List Str}, Sgns al ys → (ys.map (·.length)).sum = ys.length
  | [], _ => rfl
  | y :: r, h => by
    obtain ⟨c, _, e⟩ := h y List.mem_cons_self
    have ih := Sgns.len (ys := r) fun z hz => h z (List.mem_cons_of_mem _ hz)
    rw [List.map_cons, List.sum_cons, ih, e]
    show 1 + r.length = r.length + 1
    omega
theorem Sgns.flat {al : Str} : ∀ {ys : List Str}, Sgns al ys → ((ys.map tl).flatten).length = ys.length ∧ ∀ c ∈ (ys.map tl).flatten, c ∈ tl al
  | [], _ => ⟨rfl, fun c h => by simp at h⟩
  | y :: r, h => by
    obtain ⟨c, hc, e⟩ := h y List.mem_cons_self
    have ih := Sgns.flat (ys := r) fun z hz => h z (List.mem_cons_of_mem _ hz)
    subst e
    refine ⟨?_, fun d hd => ?_⟩
    · rw [List.map_cons, List.flatten_cons, List.length_append, ih.1, List.length_cons]
      show 1 + r.length = r.length + 1
      omega
    · rw [List.map_cons, List.flatten_cons, List.mem_append] at hd
      rcases hd with hd | hd
      · have e : d = c := by simpa [tl] using hd
        rw [e]
        exact hc
      · exact ih.2 d hd
theorem Ev.over {l : List Addr} {H H1 : Hp} {D : Addr} {o : HO} (e : Ev l H H1) (h : H D = none) : Ev l H (upd H1 D o) := fun b u q => by
  have hb : b ≠ D := ne_of_none q h
  rw [upd_ne hb]
  exact e b u q
theorem mod_ix {v : Int} {n : Nat} (hn : 0 < n) : ∃ j : Nat, j < n ∧ v % (n : Int) = (j : Int) := by
  have h0 : 0 ≤ v % (n : Int) := Int.emod_nonneg _ (by omega)
  have h1 : v % (n : Int) < (n : Int) := Int.emod_lt_of_pos _ (by omega)
  exact ⟨(v % (n : Int)).toNat, by omega, by omega⟩
theorem atI_tl {z : Str} {j : Nat} (h : j < z.length) : ∃ c ∈ tl z, atI z.cps.toList (j : Int) = some c := by
  rw [len_tl] at h
  exact ⟨(tl z)[j], List.getElem_mem h, at_ofN (List.getElem?_eq_getElem h)⟩
def spText : Sp := fun vs H Q _ => ∃ (al : Str) (r a : Addr) (n : Int), vs = [.str al, .ref r, .ref a, .int n] ∧ 1 ≤ al.length ∧ al.length ≤ 1000 ∧ Dr H r a ∧ 1 ≤ n ∧ n ≤ 40 ∧
  ∀ (z : Str) (H' : Hp), Ev [a] H H' → (z.length : Int) = n → (∀ c ∈ tl z, c ∈ tl al) → Q (.str z) H'
theorem ok_text (F : Fun K "_law_text" "_law_text" s__law_text f fd) (T : Bt mg) (C__law_draw : Cl P w K mg base "_law_draw" 1 ["row", "at", "size"] spDraw) : FnOk P w K mg base CX0 2 f fd ["alphabet", "row", "at", "size"] TW.spText := by
  refine F.ok sc__law_text (fun vs H Q E h => ?_) (fun cdv A outer s H vs Q E hr h => ?_)
  · obtain ⟨al, r, a, n, rfl, _⟩ := h
    rfl
  obtain ⟨al, r, a, n, rfl, hal, hal2, hd, hn1, hn2, q⟩ := h
  refine ⟨_, (pss_one (ps_ret (pe_join pe_str (pe_lc (own := [("k", 4)]) (g := gName 4) (by rfl) sc__law_text.nd (pi_range1 (by rfl) T.b_range (pa_cons (pv 3) pa_nil)) (blkOk_by (N := ["alphabet", "row", "at", "size", "k"]) (sc := defScope s__law_text) (by decide +kernel)) (fun _ _ _ _ _ => pg_name (i := 4) sc__law_text.nd rfl (by first | exact Or.inl rfl | exact Or.inr rfl)) (fun _ _ _ _ _ => pts_nil) (fun _ _ _ _ _ => (pe_ix ix_str (pv 0) (pe_op op_mod (pe_call C__law_draw.ok (hr.mono (by omega)) (by rfl) C__law_draw.mg C__law_draw.kp C__law_draw.b .nil pass0 (pa_cons (pv 1) (pa_cons (pv 2) (pa_cons pe_int pa_nil)))) (pe_callB call_len_str (by rfl) T.b_len PySem.boot_len (pa_cons (pv 0) pa_nil))) (fun _ _ => rfl))))))), ?_⟩
  walk_at "rd"
  refine ⟨_, rfl, n, rfl, by omega, by omega, fun D hD => lc_range (lo := 0) (n := n.toNat) (fun i H' => ∃ ys : List Str, ys.length = i ∧ Sgns al ys ∧ Ev [a] H H' ∧ H' D = some (.lst (ys.map V.str))) ⟨[], rfl, (fun y hy => by cases hy), Ev.new hD _, upd_same⟩ ?_ ?_⟩
  · rintro i H' hi ⟨ys, hl, hy, ev, hDl⟩
    walk_at "rd"
    refine ⟨r, a, 24, rfl, hd.ev ev, by omega, fun v H1 v0 v1 e1 => ⟨by have : (1000 : Nat) ≤ sizeLine := by decide
                                                                        omega, v, rfl, by omega, by have : (1000 : Nat) ≤ sizeLine := by decide
                                                                                                    omega, ?_⟩⟩
    obtain ⟨j, hj, ej⟩ := mod_ix (v := v) (n := al.length) (by omega)
    obtain ⟨c, hc, ec⟩ := atI_tl hj
    rw [ej]
    refine ⟨c, ec, _, e1.obj hDl strs_ne, by rw [List.length_map]; exact small1000 (by omega), ys ++ [⟨#[c]⟩], by simp [hl], ?_, (ev.trans e1).over hD, by rw [upd_same, List.map_append]; rfl⟩
    intro y hy2
    rcases List.mem_append.mp hy2 with h | h
    · exact hy y h
    · exact ⟨c, hc, List.mem_singleton.mp h⟩
  · rintro H' ⟨ys, hl, hy, ev, hDl⟩
    refine ⟨D, rfl, ys, .inl (SqL.of hDl), ?_, q _ _ ev ?_ ?_⟩
    · rw [hy.len]
      show ys.length + ys.length * 0 ≤ _
      omega
    · rw [len_tl, tl_join0, hy.flat.1]
      omega
    · rw [tl_join0]
      exact hy.flat.2
end
end TW
/-! E3 -/
set_option Elab.async false
set_option linter.all false
set_option maxRecDepth 100000
set_option maxHeartbeats 4000000
namespace TW
open PySem L2 TL
local macro_rules | `(tactic| walk_at "rd") => `(tactic| simp only [tSeq, tAsg, tOp, tUn, tVar, tCB, tCons, tNil, tRet, tDrop, gName, gSub, gTup, gCons, gNil, rI, rI0, rU, rIxL, rIxT, rIxS, rSetL, tC, L2.start, cxOf, tIfS, tIf, tTest, tB, tAnd, tOr, tNot, tAndV, tOrV, tNotV, tChain, tTup, tLst, tCall, tNext, tNever,
  rEq, rNe, tBM, tBM0, rCat, rRep, rIn, tSl, rSlL, rSlT, rSlS, rAll, rAny, rSortedS, rAppend, rPop, rExtend, tyV, tFld, tM1, tFmt, tJs, tRev, tKGet, rRvL, rRvT, rRvS, rExtendT, rLstS, rRepS, tNoPart, tPart, tYes, StX.tStar, wipe, rIx,
  List.map, List.length, List.replicate, List.append, List.nil_append, List.cons_append, List.append_nil, List.set, Nat.zero_add, Nat.add_zero, Nat.reduceAdd, Nat.reduceSub, List.getElem?_cons_zero, List.getElem?_cons_succ, List.length_cons, List.length_nil, List.set_cons_zero, List.set_cons_succ, List.getElem?_nil, Option.some.injEq, V.ref.injEq, V.int.injEq, V.str.injEq, V.bl.injEq, List.cons.injEq, and_true, true_and, exists_eq_left, exists_eq_left', exists_eq', exists_eq, exists_and_left, exists_const, reduceCtorEq, false_or, or_false, true_or, or_true, false_and, and_false, and_assoc, if_true, if_false, Bool.false_eq_true, Bool.true_eq_false])
local macro_rules | `(tactic| walk_at "rdd") => `(tactic| simp only [tSeq, tAsg, tOp, tUn, tVar, tCB, tCons, tNil, tRet, tDrop, gName, gSub, gTup, gCons, gNil, rI, rI0, rU, rIxL, rIxT, rIxS, rSetL, tC, L2.start, cxOf, tIfS, tIf, tTest, tB, tAnd, tOr, tNot, tAndV, tOrV, tNotV, tChain, tTup, tLst, tCall, tNext, tNever,
  rEq, rNe, tBM, tBM0, rCat, rRep, rIn, tSl, rSlL, rSlT, rSlS, rAll, rAny, rSortedS, rAppend, rPop, rExtend, tyV, tFld, tM1, tFmt, tJs, tRev, tKGet, rRvL, rRvT, rRvS, rExtendT, rLstS, rRepS, tNoPart, tPart, tYes, StX.tStar, wipe, rIx, tFor, tWhile, tLc, iList, iTup, iSeq, iStr, iRng1, iRng2, iEnumS, iZipS,
  List.map, List.length, List.replicate, List.append, List.nil_append, List.cons_append, List.append_nil, List.set, Nat.zero_add, Nat.add_zero, Nat.reduceAdd, Nat.reduceSub, List.getElem?_cons_zero, List.getElem?_cons_succ, List.length_cons, List.length_nil, List.set_cons_zero, List.set_cons_succ, List.getElem?_nil, Option.some.injEq, V.ref.injEq, V.int.injEq, V.str.injEq, V.bl.injEq, List.cons.injEq, and_true, true_and, exists_eq_left, exists_eq_left', exists_eq', exists_eq, exists_and_left, exists_const, reduceCtorEq, false_or, or_false, true_or, or_true, false_and, and_false, and_assoc, if_true, if_false, Bool.false_eq_true, Bool.true_eq_false])
section
variable {P : Program} {w : World} {K : PySem.W.Frag} {mg : Str → Option Value} {base : Heap} {f : Addr} {fd : FuncData}
theorem pick_int (l : List Int) {v : Int} (h0 : 0 ≤ v) (h1 : v < (l.length : Int)) : ∃ m ∈ l, atI (l.map V.int) v = some (.int m) := by
  have hj : v.toNat < l.length := by omega
  refine ⟨l[v.toNat], List.getElem_mem hj, at_of (j := v.toNat) (by omega) ?_⟩
  rw [List.getElem?_map, List.getElem?_eq_getElem hj] <;> rfl
theorem pick_str (l : List Str) {v : Int} (h0 : 0 ≤ v) (h1 : v < (l.length : Int)) : ∃ m ∈ l, atI (l.map V.str) v = some (.str m) := by
  have hj : v.toNat < l.length := by omega
  refine ⟨l[v.toNat], List.getElem_mem hj, at_of (j := v.toNat) (by omega) ?_⟩
  rw [List.getElem?_map, List.getElem?_eq_getElem hj] <;> rfl
structure Alph (z : Str) : Prop where
  lo : 1 ≤ z.length
  hi : z.length ≤ 6
  asc : (tl z).Pairwise (· < ·)
  low : ∀ c ∈ tl z, 97 ≤ c ∧ c ≤ 122
def abc : Str := Str.ofString "abcdefghijklmnopqrstuvwxyz"
theorem abc_tl : tl abc = (List.range 26).map (97 + ·) := by decide +kernel
theorem abc_at {n : Int} (h0 : 0 ≤ n) (h1 : n ≤ 25) : atI abc.cps.toList n = some (97 + n.toNat) := by
  have e : n = ((n.toNat : Nat) : Int) := by omega
  rw [e]
  refine at_ofN ?_
  show (tl abc)[n.toNat]? = _
  rw [abc_tl, List.getElem?_map, List.getElem?_range (by omega)]
  rfl
/-- places of letters, ascending -/
structure Asc (ps : List Int) (n : Nat) : Prop where
  len : ps.length = n
  pw : ps.Pairwise (· < ·)
  rg : ∀ x ∈ ps, 0 ≤ x ∧ x ≤ 25
def lets (ps : List Int) : List Str := ps.map fun x => ⟨#[97 + x.toNat]⟩
theorem lets_tl (ps : List Int) : ((lets ps).map tl).flatten = ps.map fun x => 97 + x.toNat := by
  induction ps with
  | nil => rfl
  | cons x r ih =>
    show [97 + x.toNat] ++ ((lets r).map tl).flatten = _
    rw [ih]
    rfl
theorem lets_alph {ps : List Int} {n : Nat} (h : Asc ps n) (h1 : 1 ≤ n) (h6 : n ≤ 6) {z : Str} (e : tl z = ps.map fun x => 97 + x.toNat) : Alph z := by
  refine ⟨?_, ?_, ?_, ?_⟩
  · rw [len_tl, e, List.length_map, h.len]; exact h1
  · rw [len_tl, e, List.length_map, h.len]; exact h6
  · rw [e, List.pairwise_map]
    exact h.pw.imp_of_mem fun {a b} ha hb hab => by
      have := h.rg a ha
      omega
  · intro c hc
    rw [e] at hc
    obtain ⟨x, hx, rfl⟩ := List.mem_map.mp hc
    have := h.rg x hx
    omega
theorem Asc.turn {ps : List Int} {n : Nat} (h : Asc ps n) : Asc ((ps.map fun x => 25 - x).reverse) n := by
  refine ⟨by rw [List.length_reverse, List.length_map, h.len], ?_, ?_⟩
  · rw [List.pairwise_reverse, List.pairwise_map]
    exact h.pw.imp fun hab => by omega
  · intro x hx
    obtain ⟨y, hy, rfl⟩ := List.mem_map.mp (List.mem_reverse.mp hx)
    have := h.rg y hy
    omega
theorem ints_len1 {ps : List Int} {i : Int} (h : HO.lst (ps.map V.int) = .lst [.int i]) : ps.length = 1 := by
  have q2 : ps.map V.int = [.int i] := by simpa using h
  have q3 := congrArg List.length q2
  rw [List.length_map] at q3
  exact q3
theorem take_more {α : Type} {l : List α} {i : Nat} {x : α} (h : l[i]? = some x) : l.take (i + 1) = l.take i ++ [x] := by
  rw [List.take_succ, h]
  rfl
theorem lets_len (ps : List Int) : ((lets ps).map (·.length)).sum = ps.length := by
  induction ps with
  | nil => rfl
  | cons x r ih =>
    show 1 + ((lets r).map (·.length)).sum = r.length + 1
    rw [ih]
    omega
def spWide : Sp := fun vs H Q _ => ∃ (r a : Addr), vs = [.ref r, .ref a] ∧ Dr H r a ∧ ∀ (z : Str) (H' : Hp), Ev [a] H H' → Alph z → Q (.str z) H'
theorem ok_wide (F : Fun K "_law_wide" "_law_wide" s__law_wide f fd) (T : Bt mg) (C__law_draw : Cl P w K mg base "_law_draw" 1 ["row", "at", "size"] spDraw) : FnOk P w K mg base CX0 2 f fd ["row", "at"] spWide := by
  refine F.ok sc__law_wide (fun vs H Q E h => ?_) (fun cdv A outer s H vs Q E hr h => ?_)
  · obtain ⟨r, a, rfl, _⟩ := h
    rfl
  obtain ⟨r, a, rfl, hd, q⟩ := h
  refine ⟨_, (pss_cons (ps_set (i := 2) sc__law_wide.nd rfl (by first | exact Or.inl rfl | exact Or.inr rfl) pe_str)
        (pss_cons (ps_set (i := 3) sc__law_wide.nd rfl (by first | exact Or.inl rfl | exact Or.inr rfl) (pe_ix (r := rIxL K) ix_list (pe_lst (pa_cons pe_int (pa_cons pe_int (pa_cons pe_int (pa_cons pe_int (pa_cons pe_int (pa_cons pe_int (pa_cons pe_int (pa_cons pe_int (pa_cons pe_int (pa_cons pe_int (pa_cons pe_int (pa_cons pe_int pa_nil))))))))))))) (pe_call C__law_draw.ok (hr.mono (by omega)) (by rfl) C__law_draw.mg C__law_draw.kp C__law_draw.b .nil pass0 (pa_cons (pv 0) (pa_cons (pv 1) (pa_cons pe_int pa_nil)))) (fun _ _ => rfl)))
        (pss_cons (ps_set (i := 4) sc__law_wide.nd rfl (by first | exact Or.inl rfl | exact Or.inr rfl) (pe_call C__law_draw.ok (hr.mono (by omega)) (by rfl) C__law_draw.mg C__law_draw.kp C__law_draw.b .nil pass0 (pa_cons (pv 0) (pa_cons (pv 1) (pa_cons pe_int pa_nil)))))
        (pss_cons (ps_set (i := 5) sc__law_wide.nd rfl (by first | exact Or.inl rfl | exact Or.inr rfl) (pe_lst (pa_cons (pv 4) pa_nil)))
        (pss_cons (ps_for PassesOwn.never (by rfl) (pi_range1 (by rfl) T.b_range (pa_cons (pe_op op_sub (pv 3) pe_int) pa_nil)) (pg_name (i := 6) sc__law_wide.nd rfl (by first | exact Or.inl rfl | exact Or.inr rfl)) (pss_cons (ps_set (i := 4) sc__law_wide.nd rfl (by first | exact Or.inl rfl | exact Or.inr rfl) (pe_op op_add (pe_op op_add (pv 4) pe_int) (pe_call C__law_draw.ok (hr.mono (by omega)) (by rfl) C__law_draw.mg C__law_draw.kp C__law_draw.b .nil pass0 (pa_cons (pv 0) (pa_cons (pv 1) (pa_cons pe_int pa_nil))))))
          (pss_one (ps_expr (pe_bm PySem.F.plainAttrs_list PySem.F.slot_list_append PySem.F.type_list_append mt_append (pv 5) (pa_cons (pv 4) pa_nil))))))
        (pss_cons (ps_if (pt_cmpR op_eq (pe_call C__law_draw.ok (hr.mono (by omega)) (by rfl) C__law_draw.mg C__law_draw.kp C__law_draw.b .nil pass0 (pa_cons (pv 0) (pa_cons (pv 1) (pa_cons pe_int pa_nil)))) pe_int (nomark _)) (pss_one (ps_set (i := 5) sc__law_wide.nd rfl (by first | exact Or.inl rfl | exact Or.inr rfl) (pe_rev rv_list (pe_lc (own := [("number", 7)]) (g := gName 7) (by rfl) sc__law_wide.nd (pi_list (pv 5)) (blkOk_by (N := ["row", "at", "letters", "many", "here", "picked", "k", "number"]) (sc := defScope s__law_wide) (by decide +kernel)) (fun _ _ _ _ _ => pg_name (i := 7) sc__law_wide.nd rfl (by first | exact Or.inl rfl | exact Or.inr rfl)) (fun _ _ _ _ _ => pts_nil) (fun _ _ _ _ _ => (pe_op op_sub pe_int (pv 7))))))) pss_nil)
        (pss_one (ps_ret (pe_join pe_str (pe_lc (own := [("number", 7)]) (g := gName 7) (by rfl) sc__law_wide.nd (pi_list (pv 5)) (blkOk_by (N := ["row", "at", "letters", "many", "here", "picked", "k", "number"]) (sc := defScope s__law_wide) (by decide +kernel)) (fun _ _ _ _ _ => pg_name (i := 7) sc__law_wide.nd rfl (by first | exact Or.inl rfl | exact Or.inr rfl)) (fun _ _ _ _ _ => pts_nil) (fun _ _ _ _ _ => (pe_ix ix_str (pv 2) (pv 7) (fun _ _ => rfl))))))))))))), ?_⟩
  walk_at "rd"
  refine ⟨by decide, fun p1 hp1 => ?_⟩
  have e1 : Ev [a] H (upd H p1 (.lst ([2, 2, 1, 3, 2, 4, 3, 6, 1, 5, 2, 3].map V.int))) := Ev.new hp1 _
  refine ⟨r, a, 12, rfl, hd.ev e1, by omega, fun v H1 v0 v1 ev1 => ?_⟩
  have hL := ev1.obj (b := p1) (o := .lst ([2, 2, 1, 3, 2, 4, 3, 6, 1, 5, 2, 3].map V.int)) upd_same (fun i q => by simp at q)
  obtain ⟨m, hm, hat⟩ := pick_int [2, 2, 1, 3, 2, 4, 3, 6, 1, 5, 2, 3] v0 v1
  have hm6 : 1 ≤ m ∧ m ≤ 6 := by
    have : ∀ x ∈ ([2, 2, 1, 3, 2, 4, 3, 6, 1, 5, 2, 3] : List Int), 1 ≤ x ∧ x ≤ 6 := by decide
    exact this m hm
  have e2 := e1.trans ev1
  refine ⟨_, v, rfl, SqL.of hL, .int m, hat, ?_⟩
  refine ⟨r, a, 6, rfl, hd.ev e2, by omega, fun h H2 h0 h1 ev2 => ⟨by decide, fun p hp => ?_⟩⟩
  have e3 := e2.trans ev2
  have hpa : p ≠ a := fun z => by
    obtain ⟨_, j, hj⟩ := hd.ev e3
    rw [← z, hp] at hj
    cases hj
  have hpa' : p ∉ [a] := by simpa using hpa
  have hp0 : H p = none := e3.free hp
  refine ⟨_, rfl, m, 1, rfl, rfl, m - 1, rfl, by omega, by omega, for_range (lo := 0) (n := (m - 1).toNat) (fun i σ H' => ∃ (c : Option V) (here : Int) (ps : List Int), σ = [some (.ref r), some (.ref a), some (.str abc), some (.int m), some (.int here), some (.ref p), c, none] ∧ Asc ps (i + 1) ∧ (∀ x ∈ ps, x ≤ here) ∧ here ≤ 5 + 4 * i ∧ Ev [a] H H' ∧ H' p = some (.lst (ps.map V.int)))
    ⟨none, h, [h], rfl, ⟨rfl, by simp, by simp; omega⟩, by simp, by omega, e3.over hp0, upd_same⟩ ?_ ?_⟩
  · rintro i σ H' hi ⟨c, here, ps, rfl, hA, hle, hb, ev, hpl⟩
    walk_at "rd"
    refine ⟨r, a, 4, rfl, hd.ev ev, by omega, fun y H3 y0 y1 ev3 => ?_⟩
    have hpl3 := ev3.out hpl hpa'
    refine ⟨y, rfl, .inl ⟨_, SqL.of hpl3⟩, _, hpl3, by rw [List.length_map, hA.len]; exact small1000 (by omega), ps ++ [here + 1 + y], ?_, ?_, by omega, (ev.trans ev3).over hp0, by rw [upd_same, List.map_append]; rfl⟩
    · refine ⟨by rw [List.length_append, hA.len]; rfl, ?_, ?_⟩
      · rw [List.pairwise_append]
        refine ⟨hA.pw, by simp, fun x hx z hz => ?_⟩
        have := hle x hx
        rw [List.mem_singleton.mp hz]
        omega
      · intro x hx
        rcases List.mem_append.mp hx with hx | hx
        · exact hA.rg x hx
        · rw [List.mem_singleton.mp hx]
          cases ps with
          | nil => have := hA.len; simp at this
          | cons z r =>
            have := hA.rg z List.mem_cons_self
            have := hle z List.mem_cons_self
            omega
    · intro x hx
      rcases List.mem_append.mp hx with hx | hx
      · have := hle x hx
        omega
      · rw [List.mem_singleton.mp hx]
        omega
  · rintro σ H' ⟨c, here, ps, rfl, hA, hle, hb, ev, hpl⟩
    have hn : (m - 1).toNat + 1 = m.toNat := by omega
    rw [hn] at hA
    walk_at "rd"
    have fin : ∀ (p5 : Addr) (ps5 : List Int) (H5 : Hp) (c : Option V), Ev [a] H H5 → Asc ps5 m.toNat → H5 p5 = some (.lst (ps5.map V.int)) →
        tLc (iList K (tVar 5)) (gName 7) tYes (tOp rIxS (tVar 2) (tVar 7)) [7] [some (V.ref r), some (V.ref a), some (V.str abc), some (V.int m), some (V.int here), some (V.ref p5), c, none] H5
          fun y H2 => ∃ x, y = V.ref x ∧ ∃ x_1, (SqL K H2 x (List.map V.str x_1) ∨ SqT K H2 x (List.map V.str x_1)) ∧ (List.map (fun x => x.length) x_1).sum + x_1.length * (Str.ofString "").length ≤ 16777216 ∧ Q (V.str (Txt.join (Str.ofString "") x_1)) H2 := by
      intro p5 ps5 H5 c e5 hA5 hp5
      refine ⟨_, rfl, p5, rfl, ⟨_, SqL.of hp5⟩, fun D hD => lc_list (K := K) (a := p5) (xs := ps5.map V.int) (fun i H' => H' = upd H5 D (.lst (((lets ps5).take i).map V.str))) rfl (fun i H' _ e => e ▸ SqL.of ((upd_ne (ne_of_none hp5 hD)).trans hp5)) ?_ ?_⟩
      · rintro i x H' hi rfl
        obtain ⟨y, hy, rfl⟩ := int_at hi
        have hy2 := hA5.rg y (List.mem_of_getElem? hy)
        have hy3 : (lets ps5)[i]? = some ⟨#[97 + y.toNat]⟩ := by
          unfold lets
          rw [List.getElem?_map, hy]
          rfl
        have hlt := (List.getElem?_eq_some_iff.mp hi).1
        rw [List.length_map, hA5.len] at hlt
        walk_at "rd"
        refine ⟨by decide, _, abc_at hy2.1 hy2.2, _, upd_same, by rw [List.length_map, List.length_take]; exact small1000 (by omega), ?_⟩
        rw [upd_upd, take_more hy3, List.map_append]
        rfl
      · rintro H' rfl
        refine ⟨D, rfl, lets ps5, .inl (SqL.of (upd_same.trans (by rw [List.take_of_length_le (by unfold lets; simp)]))), ?_, q _ _ (e5.over (e5.free hD)) (lets_alph hA5 (by omega) (by omega) ?_)⟩
        · rw [lets_len]
          show ps5.length + _ * 0 ≤ _
          rw [hA5.len]
          omega
        · rw [tl_join0, lets_tl]
    refine ⟨r, a, 3, rfl, hd.ev ev, by omega, fun y H3 y0 y1 ev3 => ⟨rfl, ?_⟩⟩
    have hpl3 := ev3.out hpl hpa'
    have e5 := ev.trans ev3
    refine ite2 (fun c => ?_) (fun c => fin p ps H3 _ e5 hA hpl3)
    refine ⟨_, rfl, p, rfl, ⟨_, SqL.of hpl3⟩, fun D hD => lc_list (K := K) (a := p) (xs := ps.map V.int) (fun i H' => H' = upd H3 D (.lst (((ps.map fun x => 25 - x).take i).map V.int))) rfl (fun i H' _ e => e ▸ SqL.of ((upd_ne (ne_of_none hpl3 hD)).trans hpl3)) ?_ ?_⟩
    · rintro i x H' hi rfl
      obtain ⟨z, hz, rfl⟩ := int_at hi
      have hz3 : (ps.map fun x => 25 - x)[i]? = some (25 - z) := by
        rw [List.getElem?_map, hz]
        rfl
      have hlt := (List.getElem?_eq_some_iff.mp hi).1
      rw [List.length_map, hA.len] at hlt
      walk_at "rd"
      refine ⟨_, upd_same, by rw [List.length_map, List.length_take]; exact small1000 (by omega), ?_⟩
      rw [upd_upd, take_more hz3, List.map_append]
      rfl
    · rintro H' rfl
      refine ⟨D, rfl, _, SqL.of upd_same, fun p6 hp6 => ?_⟩
      refine fin p6 ((ps.map fun x => 25 - x).reverse) _ _ ?_ hA.turn ?_
      · exact (e5.over (e5.free hD)).over ((e5.over (e5.free hD)).free hp6)
      · rw [upd_same, List.take_of_length_le (by simp), List.map_reverse]
end
end TW
/-! E4 -/
set_option Elab.async false
set_option linter.all false
set_option maxRecDepth 100000
set_option maxHeartbeats 4000000
namespace TW
open PySem L2 TL
local macro_rules | `(tactic| walk_at "rd") => `(tactic| simp only [tSeq, tAsg, tOp, tUn, tVar, tCB, tCons, tNil, tRet, tDrop, gName, gSub, gTup, gCons, gNil, rI, rI0, rU, rIxL, rIxT, rIxS, rSetL, tC, L2.start, cxOf, tIfS, tIf, tTest, tB, tAnd, tOr, tNot, tAndV, tOrV, tNotV, tChain, tTup, tLst, tCall, tNext, tNever,
  rEq, rNe, tBM, tBM0, rCat, rRep, rIn, tSl, rSlL, rSlT, rSlS, rAll, rAny, rSortedS, rAppend, rPop, rExtend, tyV, tFld, tM1, tFmt, tJs, tRev, tKGet, rRvL, rRvT, rRvS, rExtendT, rLstS, rRepS, tNoPart, tPart, tYes, StX.tStar, wipe, rIx,
  List.map, List.length, List.replicate, List.append, List.nil_append, List.cons_append, List.append_nil, List.set, Nat.zero_add, Nat.add_zero, Nat.reduceAdd, Nat.reduceSub, List.getElem?_cons_zero, List.getElem?_cons_succ, List.length_cons, List.length_nil, List.set_cons_zero, List.set_cons_succ, List.getElem?_nil, Option.some.injEq, V.ref.injEq, V.int.injEq, V.str.injEq, V.bl.injEq, List.cons.injEq, and_true, true_and, exists_eq_left, exists_eq_left', exists_eq', exists_eq, exists_and_left, exists_const, reduceCtorEq, false_or, or_false, true_or, or_true, false_and, and_false, and_assoc, if_true, if_false, Bool.false_eq_true, Bool.true_eq_false])
local macro_rules | `(tactic| walk_at "rdd") => `(tactic| simp only [tSeq, tAsg, tOp, tUn, tVar, tCB, tCons, tNil, tRet, tDrop, gName, gSub, gTup, gCons, gNil, rI, rI0, rU, rIxL, rIxT, rIxS, rSetL, tC, L2.start, cxOf, tIfS, tIf, tTest, tB, tAnd, tOr, tNot, tAndV, tOrV, tNotV, tChain, tTup, tLst, tCall, tNext, tNever,
  rEq, rNe, tBM, tBM0, rCat, rRep, rIn, tSl, rSlL, rSlT, rSlS, rAll, rAny, rSortedS, rAppend, rPop, rExtend, tyV, tFld, tM1, tFmt, tJs, tRev, tKGet, rRvL, rRvT, rRvS, rExtendT, rLstS, rRepS, tNoPart, tPart, tYes, StX.tStar, wipe, rIx, tFor, tWhile, tLc, iList, iTup, iSeq, iStr, iRng1, iRng2, iEnumS, iZipS,
  List.map, List.length, List.replicate, List.append, List.nil_append, List.cons_append, List.append_nil, List.set, Nat.zero_add, Nat.add_zero, Nat.reduceAdd, Nat.reduceSub, List.getElem?_cons_zero, List.getElem?_cons_succ, List.length_cons, List.length_nil, List.set_cons_zero, List.set_cons_succ, List.getElem?_nil, Option.some.injEq, V.ref.injEq, V.int.injEq, V.str.injEq, V.bl.injEq, List.cons.injEq, and_true, true_and, exists_eq_left, exists_eq_left', exists_eq', exists_eq, exists_and_left, exists_const, reduceCtorEq, false_or, or_false, true_or, or_true, false_and, and_false, and_assoc, if_true, if_false, Bool.false_eq_true, Bool.true_eq_false])
section
variable {P : Program} {w : World} {K : PySem.W.Frag} {mg : Str → Option Value} {base : Heap} {f : Addr} {fd : FuncData}
/-- some letters of the alphabet, in its order -/
structure LetOk (al z : Str) : Prop where
  sub : (tl z).Sublist (tl al)
  ne : tl z ≠ []
def spLetters : Sp := fun vs H Q _ => ∃ (r a : Addr) (al : Str), vs = [.ref r, .ref a, .str al] ∧ Dr H r a ∧ Alph al ∧ ∀ (z : Str) (H' : Hp), Ev [a] H H' → LetOk al z → Q (.str z) H'
theorem pows {n : Nat} (h1 : 1 ≤ n) (h2 : n ≤ 6) : atI ([1, 3, 7, 15, 31, 63].map V.int) ((n : Int) - 1) = some (.int ((2 ^ n : Nat) - 1)) := by
  have : n = 1 ∨ n = 2 ∨ n = 3 ∨ n = 4 ∨ n = 5 ∨ n = 6 := by omega
  rcases this with rfl | rfl | rfl | rfl | rfl | rfl <;> rfl
theorem ok_letters (F : Fun K "_law_letters_of" "_law_letters_of" s__law_letters_of f fd) (T : Bt mg) (C__law_draw : Cl P w K mg base "_law_draw" 1 ["row", "at", "size"] spDraw) : FnOk P w K mg base CX0 2 f fd ["row", "at", "alphabet"] spLetters := by
  refine F.ok sc__law_letters_of (fun vs H Q E h => ?_) (fun cdv A outer s H vs Q E hr h => ?_)
  · obtain ⟨r, a, al, rfl, _⟩ := h
    rfl
  obtain ⟨r, a, al, rfl, hd, hA, q⟩ := h
  refine ⟨_, (pss_cons (ps_set (i := 3) sc__law_letters_of.nd rfl (by first | exact Or.inl rfl | exact Or.inr rfl) (pe_op op_add pe_int (pe_op op_mod (pe_op op_add (pe_op op_mul (pe_call C__law_draw.ok (hr.mono (by omega)) (by rfl) C__law_draw.mg C__law_draw.kp C__law_draw.b .nil pass0 (pa_cons (pv 0) (pa_cons (pv 1) (pa_cons pe_int pa_nil)))) pe_int) (pe_call C__law_draw.ok (hr.mono (by omega)) (by rfl) C__law_draw.mg C__law_draw.kp C__law_draw.b .nil pass0 (pa_cons (pv 0) (pa_cons (pv 1) (pa_cons pe_int pa_nil))))) (pe_ix (r := rIxL K) ix_list (pe_lst (pa_cons pe_int (pa_cons pe_int (pa_cons pe_int (pa_cons pe_int (pa_cons pe_int (pa_cons pe_int pa_nil))))))) (pe_op op_sub (pe_callB call_len_str (by rfl) T.b_len PySem.boot_len (pa_cons (pv 2) pa_nil)) pe_int) (fun _ _ => rfl)))))
        (pss_cons (ps_set (i := 4) sc__law_letters_of.nd rfl (by first | exact Or.inl rfl | exact Or.inr rfl) pe_str)
        (pss_cons (ps_for PassesOwn.never (by rfl) (pi_str (pv 2)) (pg_name (i := 5) sc__law_letters_of.nd rfl (by first | exact Or.inl rfl | exact Or.inr rfl)) (pss_cons (ps_if (pt_cmpR op_eq (pe_op op_mod (pv 3) pe_int) pe_int (nomark _)) (pss_one (ps_set (i := 4) sc__law_letters_of.nd rfl (by first | exact Or.inl rfl | exact Or.inr rfl) (pe_op op_add_str (pv 4) (pv 5)))) pss_nil)
          (pss_one (ps_set (i := 3) sc__law_letters_of.nd rfl (by first | exact Or.inl rfl | exact Or.inr rfl) (pe_op op_fdiv (pv 3) pe_int)))))
        (pss_one (ps_ret (pv 4)))))), ?_⟩
  walk_at "rd"
  refine ⟨r, a, 24, rfl, hd, by omega, fun x H1 x0 x1 e1 => ?_⟩
  refine ⟨x, rfl, .inl ⟨by omega, by omega⟩, r, a, 24, rfl, hd.ev e1, by omega, fun y H2 y0 y1 e2 => ⟨y, rfl, by decide, fun p hp => ?_⟩⟩
  have e3 := e1.trans e2
  have hal : al.length ≤ sizeLine := Nat.le_trans hA.hi (by decide)
  have hn1 := hA.lo
  have hn6 := hA.hi
  have hM : (1 : Nat) < 2 ^ al.length := Nat.one_lt_two_pow (by omega)
  generalize hMM : (2 : Nat) ^ al.length = M at hM
  have hat := pows hn1 hn6
  rw [hMM] at hat
  refine ⟨hal, _, SqL.of upd_same, _, hat, ((M : Nat) : Int) - 1, rfl, by omega, ?_⟩
  have g0 : 0 ≤ (x * 24 + y) % (((M : Nat) : Int) - 1) := Int.emod_nonneg _ (by omega)
  have g1 : (x * 24 + y) % (((M : Nat) : Int) - 1) < ((M : Nat) : Int) - 1 := Int.emod_lt_of_pos _ (by omega)
  generalize (x * 24 + y) % (((M : Nat) : Int) - 1) = g at g0 g1
  have len : al.cps.size = al.length := rfl
  refine ⟨_, rfl, al, rfl, for_it walk_str (fun i σ H' => ∃ (c : Option V) (rest : Int) (z : Str), σ = [some (.ref r), some (.ref a), some (.str al), some (.int rest), some (.str z), c] ∧ H' = (upd H2 p (.lst [.int 1, .int 3, .int 7, .int 15, .int 31, .int 63])) ∧ i ≤ al.length ∧ 0 ≤ rest ∧ rest < ((2 ^ (al.length - i) : Nat) : Int) ∧ (tl z).Sublist ((tl al).take i) ∧ (tl z = [] → 1 + g = rest * ((2 ^ i : Nat) : Int)))
    ⟨none, 1 + g, Str.ofString "", rfl, rfl, by omega, by omega, ?_, ?_, ?_⟩ (fun _ _ _ _ _ => trivial) ?_ ?_⟩
  · rw [Nat.sub_zero, hMM]
    omega
  · rw [tl_empty]
    exact List.nil_sublist _
  · intro _
    simp
  · rintro i v σ H3 H4 hi ⟨c, rest, z, rfl, rfl, hil, r0, r1, hsub, hne⟩ ⟨rfl, cc, hcc, rfl⟩
    rw [len] at hi
    walk_at "rd"
    have hcc2 : (tl al)[i]? = some cc := by
      show al.cps.toList[i]? = _
      rw [Array.getElem?_toList]
      exact hcc
    have htk : (tl al).take (i + 1) = (tl al).take i ++ [cc] := take_more hcc2
    have zl : (tl z).length ≤ i := Nat.le_trans hsub.length_le (by rw [List.length_take]; omega)
    have p2 : (2 : Nat) ^ (al.length - i) = 2 * 2 ^ (al.length - (i + 1)) := by
      rw [show al.length - i = (al.length - (i + 1)) + 1 by omega, Nat.pow_succ]
      omega
    have p3 : (2 : Nat) ^ (i + 1) = 2 * 2 ^ i := by
      rw [Nat.pow_succ]
      omega
    refine ⟨by omega, rfl, ite2 (fun c => ?_) (fun c => ?_)⟩
    · refine ⟨?_, ⟨by omega, by omega⟩, by omega, by omega, by omega, ?_, ?_⟩
      · show z.length + 1 ≤ sizeLine
        rw [len_tl]
        exact Nat.le_trans (show (tl z).length + 1 ≤ 10 by omega) (by decide)
      · rw [tl_cat, htk]
        exact hsub.append (List.Sublist.refl _)
      · intro e
        rw [tl_cat] at e
        exact absurd e (by simp [tl])
    · have c2 : rest % 2 = 0 := by
        have : ¬ rest % 2 = 1 := fun q => c (by simp [q])
        omega
      refine ⟨⟨by omega, by omega⟩, by omega, by omega, by omega, ?_, ?_⟩
      · rw [htk]
        exact hsub.trans (List.sublist_append_left _ _)
      · intro e
        have e2 := hne e
        rw [e2, p3]
        have e3 : rest = 2 * (rest / 2) := by omega
        rw [e3]
        have e4 : 2 * (rest / 2) / 2 = rest / 2 := by omega
        rw [e4]
        push_cast
        rw [Int.mul_comm 2 (rest / 2), Int.mul_assoc]
  · rintro σ H3 ⟨c, rest, z, rfl, rfl, hil, r0, r1, hsub, hne⟩
    rw [len] at hil r1 hsub hne
    walk_at "rd"
    refine q _ _ (e3.trans (Ev.new hp _)) ⟨hsub.trans (List.take_sublist _ _), fun e => ?_⟩
    have e2 := hne e
    rw [Nat.sub_self] at r1
    have e3 : rest = 0 := by
      have : ((2 ^ 0 : Nat) : Int) = 1 := rfl
      omega
    rw [e3] at e2
    omega
end
end TW
/-! E5 -/
set_option Elab.async false
set_option linter.all false
set_option maxRecDepth 100000
set_option maxHeartbeats 4000000
namespace TW
open PySem L2 TL
local macro_rules | `(tactic| walk_at "rd") => `(tactic| simp only [tSeq, tAsg, tOp, tUn, tVar, tCB, tCons, tNil, tRet, tDrop, gName, gSub, gTup, gCons, gNil, rI, rI0, rU, rIxL, rIxT, rIxS, rSetL, tC, L2.start, cxOf, tIfS, tIf, tTest, tB, tAnd, tOr, tNot, tAndV, tOrV, tNotV, tChain, tTup, tLst, tCall, tNext, tNever,
  rEq, rNe, tBM, tBM0, rCat, rRep, rIn, tSl, rSlL, rSlT, rSlS, rAll, rAny, rSortedS, rAppend, rPop, rExtend, tyV, tFld, tM1, tFmt, tJs, tRev, tKGet, rRvL, rRvT, rRvS, rExtendT, rLstS, rRepS, tNoPart, tPart, tYes, StX.tStar, wipe, rIx,
  List.map, List.length, List.replicate, List.append, List.nil_append, List.cons_append, List.append_nil, List.set, Nat.zero_add, Nat.add_zero, Nat.reduceAdd, Nat.reduceSub, List.getElem?_cons_zero, List.getElem?_cons_succ, List.length_cons, List.length_nil, List.set_cons_zero, List.set_cons_succ, List.getElem?_nil, Option.some.injEq, V.ref.injEq, V.int.injEq, V.str.injEq, V.bl.injEq, List.cons.injEq, and_true, true_and, exists_eq_left, exists_eq_left', exists_eq', exists_eq, exists_and_left, exists_const, reduceCtorEq, false_or, or_false, true_or, or_true, false_and, and_false, and_assoc, if_true, if_false, Bool.false_eq_true, Bool.true_eq_false])
local macro_rules | `(tactic| walk_at "rdd") => `(tactic| simp only [tSeq, tAsg, tOp, tUn, tVar, tCB, tCons, tNil, tRet, tDrop, gName, gSub, gTup, gCons, gNil, rI, rI0, rU, rIxL, rIxT, rIxS, rSetL, tC, L2.start, cxOf, tIfS, tIf, tTest, tB, tAnd, tOr, tNot, tAndV, tOrV, tNotV, tChain, tTup, tLst, tCall, tNext, tNever,
  rEq, rNe, tBM, tBM0, rCat, rRep, rIn, tSl, rSlL, rSlT, rSlS, rAll, rAny, rSortedS, rAppend, rPop, rExtend, tyV, tFld, tM1, tFmt, tJs, tRev, tKGet, rRvL, rRvT, rRvS, rExtendT, rLstS, rRepS, tNoPart, tPart, tYes, StX.tStar, wipe, rIx, tFor, tWhile, tLc, iList, iTup, iSeq, iStr, iRng1, iRng2, iEnumS, iZipS,
  List.map, List.length, List.replicate, List.append, List.nil_append, List.cons_append, List.append_nil, List.set, Nat.zero_add, Nat.add_zero, Nat.reduceAdd, Nat.reduceSub, List.getElem?_cons_zero, List.getElem?_cons_succ, List.length_cons, List.length_nil, List.set_cons_zero, List.set_cons_succ, List.getElem?_nil, Option.some.injEq, V.ref.injEq, V.int.injEq, V.str.injEq, V.bl.injEq, List.cons.injEq, and_true, true_and, exists_eq_left, exists_eq_left', exists_eq', exists_eq, exists_and_left, exists_const, reduceCtorEq, false_or, or_false, true_or, or_true, false_and, and_false, and_assoc, if_true, if_false, Bool.false_eq_true, Bool.true_eq_false])
section
variable {P : Program} {w : World} {K : PySem.W.Frag} {mg : Str → Option Value} {base : Heap} {f : Addr} {fd : FuncData}
def sgs (l : List Nat) : List Str := l.map fun c => ⟨#[c]⟩
theorem sgs_flat (l : List Nat) : ((sgs l).map tl).flatten = l := by
  induction l with
  | nil => rfl
  | cons x r ih =>
    show [x] ++ ((sgs r).map tl).flatten = _
    rw [ih]
    rfl
theorem sgs_len (l : List Nat) : ((sgs l).map (·.length)).sum = l.length := by
  induction l with
  | nil => rfl
  | cons x r ih =>
    show 1 + ((sgs r).map (·.length)).sum = r.length + 1
    rw [ih]
    omega
theorem ltCps_one (x p : Nat) : PySem.Spec.ltCps [x] [p] = decide (x < p) := by
  simp [PySem.Spec.ltCps]
theorem rising_sgs : ∀ (l : List Nat) (p : Nat), PyProof.Rows.risingS ⟨#[p]⟩ (sgs l) = true → (p :: l).Pairwise (· ≤ ·)
  | [], p, _ => by simp
  | x :: r, p, h => by
    have h2 : (!PySem.Spec.ltCps [x] [p] && PyProof.Rows.risingS ⟨#[x]⟩ (sgs r)) = true := h
    rw [Bool.and_eq_true] at h2
    have ih := rising_sgs r x h2.2
    have hx : p ≤ x := by
      have := h2.1
      rw [ltCps_one] at this
      simpa using this
    refine List.pairwise_cons.mpr ⟨fun y hy => ?_, ih⟩
    rcases List.mem_cons.mp hy with rfl | hy
    · exact hx
    · exact Nat.le_trans hx ((List.pairwise_cons.mp ih).1 y hy)
theorem sorted_sgs {l : List Nat} (h : PyProof.Rows.sortedS (sgs l) = true) : l.Pairwise (· ≤ ·) := by
  cases l with
  | nil => exact List.Pairwise.nil
  | cons x r => exact rising_sgs r x h
theorem perm_sgs {ys : List Str} {l : List Nat} (h : ys.Perm (sgs l)) : ∃ l', ys = sgs l' ∧ l'.Perm l := by
  refine ⟨ys.map fun y => y.cps.getD 0 0, ?_, ?_⟩
  · unfold sgs
    rw [List.map_map]
    have : ∀ y ∈ ys, y = ((fun c => (⟨#[c]⟩ : Str)) ∘ fun y => y.cps.getD 0 0) y := fun y hy => by
      obtain ⟨c, _, e⟩ := List.mem_map.mp (h.mem_iff.mp hy)
      rw [← e]
      rfl
    exact (List.map_congr_left (f := id) this |>.symm.trans (by simp)).symm
  · have := h.map fun y : Str => y.cps.getD 0 0
    refine this.trans (List.Perm.of_eq ?_)
    unfold sgs
    rw [List.map_map]
    have e : ((fun y : Str => y.cps.getD 0 0) ∘ fun c => (⟨#[c]⟩ : Str)) = id := by
      funext c
      rfl
    rw [e, List.map_id]
theorem asc_of {l : List Nat} (h : l.Pairwise (· ≤ ·)) (n : l.Nodup) : l.Pairwise (· < ·) :=
  (List.Pairwise.and h n).imp fun hab => Nat.lt_of_le_of_ne hab.1 hab.2
theorem asc_nodup {l : List Nat} (h : l.Pairwise (· < ·)) : l.Nodup := h.imp fun hab => Nat.ne_of_lt hab
def spPrints : Sp := fun vs H Q _ => ∃ (r a : Addr) (al : Str), vs = [.ref r, .ref a, .str al] ∧ Dr H r a ∧ Alph al ∧ ∀ (z : Str) (H' : Hp), Ev [a] H H' → Alph z → Q (.str z) H'
theorem ok_prints (F : Fun K "_law_wide_prints" "_law_wide_prints" s__law_wide_prints f fd) (T : Bt mg) (C__law_draw : Cl P w K mg base "_law_draw" 1 ["row", "at", "size"] spDraw) (C__law_wide : Cl P w K mg base "_law_wide" 2 ["row", "at"] spWide) : FnOk P w K mg base CX0 3 f fd ["row", "at", "alphabet"] spPrints := by
  refine F.ok sc__law_wide_prints (fun vs H Q E h => ?_) (fun cdv A outer s H vs Q E hr h => ?_)
  · obtain ⟨r, a, al, rfl, _⟩ := h
    rfl
  obtain ⟨r, a, al, rfl, hd, hA, q⟩ := h
  refine ⟨_, (pss_cons (ps_set (i := 3) sc__law_wide_prints.nd rfl (by first | exact Or.inl rfl | exact Or.inr rfl) (pe_call C__law_draw.ok (hr.mono (by omega)) (by rfl) C__law_draw.mg C__law_draw.kp C__law_draw.b .nil pass0 (pa_cons (pv 0) (pa_cons (pv 1) (pa_cons pe_int pa_nil)))))
        (pss_cons (ps_set (i := 4) sc__law_wide_prints.nd rfl (by first | exact Or.inl rfl | exact Or.inr rfl) (pe_call C__law_wide.ok (hr.mono (by omega)) (by rfl) C__law_wide.mg C__law_wide.kp C__law_wide.b .nil pass0 (pa_cons (pv 0) (pa_cons (pv 1) pa_nil))))
        (pss_cons (ps_if (pt_cmpR op_lt (pv 3) pe_int (nomark _)) (pss_one (ps_ret (pv 2))) pss_nil)
        (pss_cons (ps_if (pt_cmpR op_lt (pv 3) pe_int (nomark _)) (pss_cons (ps_setLc (i := 5) (own := [("letter", 6)]) (g := gName 6) (by rfl) sc__law_wide_prints.nd rfl rfl (sw_true rfl rfl rfl (by decide +kernel)) (pi_str (pv 4)) (blkOk_by (N := ["row", "at", "alphabet", "kind", "other", "extra", "letter"]) (sc := defScope s__law_wide_prints) (by decide +kernel)) (fun _ _ _ _ _ => pg_name (i := 6) sc__law_wide_prints.nd rfl (by first | exact Or.inl rfl | exact Or.inr rfl)) (fun _ _ _ _ _ => pts_one (pt_cmpR op_notIn_sign (pv 6) (pv 2) (by rfl))) (fun _ _ _ _ _ => (pv 6)))
          (pss_one (ps_ret (pe_join pe_str (pe_callB cr_sortedS (by rfl) T.b_sorted (by decide +kernel) (pa_cons (pe_op op_cat (pe_callTy (call_list_str rfl) (by rfl) T.b_list (by decide +kernel) (pa_cons (pv 2) pa_nil)) (pe_slice sl_list (pv 5) po_none (po_some (pe_op op_sub pe_int (pe_callB call_len_str (by rfl) T.b_len PySem.boot_len (pa_cons (pv 2) pa_nil)))))) pa_nil)))))) pss_nil)
        (pss_one (ps_ret (pv 4))))))), ?_⟩
  walk_at "rd"
  refine ⟨r, a, 6, rfl, hd, by omega, fun x H1 x0 x1 e1 => ?_⟩
  refine ⟨r, a, rfl, hd.ev e1, fun o H2 e2 hO => ?_⟩
  have e3 := e1.trans e2
  refine ⟨x, rfl, ite2 (fun c => q al H2 e3 hA) (fun c => ⟨x, rfl, ite2 (fun c => ?_) (fun c => q o H2 e3 hO)⟩)⟩
  have ex0 : ∀ c ∈ tl o, 97 ≤ c ∧ c ≤ 122 := hO.low
  refine ⟨_, rfl, o, rfl, fun D hD => lc_it walk_str (fun i H' => H' = upd H2 D (.lst ((sgs (((tl o).take i).filter fun c => !decide (c ∈ tl al))).map V.str))) rfl (fun _ _ _ _ => trivial) ?_ ?_⟩
  · rintro i v H3 H4 hi rfl ⟨rfl, cc, hcc, rfl⟩
    have hcc2 : (tl o)[i]? = some cc := by
      show o.cps.toList[i]? = _
      rw [Array.getElem?_toList]
      exact hcc
    have htk : (tl o).take (i + 1) = (tl o).take i ++ [cc] := take_more hcc2
    have ho6 : (tl o).length ≤ 6 := by rw [← len_tl]; exact hO.hi
    have hl6 : (((tl o).take i).filter fun c => !decide (c ∈ tl al)).length ≤ 6 := Nat.le_trans (List.length_filter_le _ _) (Nat.le_trans (by rw [List.length_take]; exact Nat.min_le_right _ _) ho6)
    walk_at "rd"
    refine ⟨cc, rfl, ite2 (fun c => ⟨_, upd_same, ?_, ?_⟩) (fun c => ?_)⟩
    · rw [List.length_map]
      unfold sgs
      rw [List.length_map]
      exact small1000 (by omega)
    · rw [upd_upd, htk, List.filter_append]
      have : ([cc].filter fun c => !decide (c ∈ tl al)) = [cc] := by
        simp only [List.filter_cons, List.filter_nil]
        rw [if_pos c]
      rw [this]
      unfold sgs
      rw [List.map_append, List.map_append]
      rfl
    · rw [htk, List.filter_append]
      have : ([cc].filter fun c => !decide (c ∈ tl al)) = [] := by
        simp only [List.filter_cons, List.filter_nil]
        rw [if_neg c]
      rw [this, List.append_nil]
  · rintro H3 rfl
    have sz : o.cps.size = (tl o).length := (Array.length_toList).symm
    rw [sz, List.take_of_length_le (Nat.le_refl _)]
    generalize hex : ((tl o).filter fun c => !decide (c ∈ tl al)) = ex
    walk_at "rd"
    have hal : al.length ≤ sizeLine := Nat.le_trans hA.hi (by decide)
    have hn6 := hA.hi
    have hl6 : ex.length ≤ 6 := by
      rw [← hex]
      exact Nat.le_trans (List.length_filter_le _ _) (by rw [← len_tl]; exact hO.hi)
    refine ⟨hal, fun p1 hp1 => ⟨hal, _, SqL.of ((upd_ne (ne_of_none upd_same hp1)).trans upd_same), fun p2 hp2 => ?_⟩⟩
    have e4 := (e3.trans (Ev.new hD _)).trans (Ev.new hp1 (.lst ((signsOf al).map V.str)))
    have hcut : cutV ((sgs ex).map V.str) none (some (6 - (al.length : Int))) = (sgs (ex.take (6 - al.length))).map V.str := by
      unfold cutV
      have e6 : (6 - (al.length : Int)) = ((6 - al.length : Nat) : Int) := by omega
      rw [HT.sIx_none, e6, HT.sIx_nat, List.drop_zero, Nat.sub_zero]
      unfold sgs
      rw [List.map_map, List.length_map, List.map_map]
      by_cases hh : 6 - al.length ≤ ex.length
      · rw [Nat.min_eq_left hh, List.map_take]
      · rw [Nat.min_eq_right (by omega), List.take_of_length_le (by simp), List.take_of_length_le (by omega)]
    rw [hcut]
    have hs1 : signsOf al = sgs (tl al) := rfl
    rw [hs1]
    refine ⟨_, (upd_ne (ne_of_none upd_same hp2)).trans upd_same, _, upd_same, ?_, fun p3 hp3 => ⟨sgs (tl al ++ ex.take (6 - al.length)), ?_, ?_, fun ys p4 hperm hsort hp4 => ?_⟩⟩
    · rw [List.length_map, List.length_map]
      unfold sgs
      rw [List.length_map, List.length_map, List.length_take, ← len_tl]
      exact Nat.le_of_lt (small1000 (by omega))
    · refine SqL.of (upd_same.trans ?_)
      unfold sgs
      rw [List.map_append, List.map_append]
    · unfold sgs
      rw [List.length_map, List.length_append, List.length_take, ← len_tl]
      omega
    · obtain ⟨l', rfl, hp⟩ := perm_sgs hperm
      have hlen : (tl al ++ ex.take (6 - al.length)).length ≤ 6 := by
        rw [List.length_append, List.length_take, ← len_tl]
        omega
      have hlen' : l'.length ≤ 6 := by rw [hp.length_eq]; exact hlen
      refine ⟨sgs l', .inl (SqL.of upd_same), ?_, ?_⟩
      · rw [sgs_len]
        show l'.length + _ * 0 ≤ _
        omega
      · have nd1 : (tl al ++ ex.take (6 - al.length)).Nodup := by
          rw [List.nodup_append]
          refine ⟨asc_nodup hA.asc, ?_, ?_⟩
          · rw [← hex]
            exact (List.take_sublist _ _).nodup (List.filter_sublist.nodup (asc_nodup hO.asc))
          · intro x hx y hy e
            subst e
            rw [← hex] at hy
            have := (List.mem_filter.mp (List.mem_of_mem_take hy)).2
            simp [hx] at this
        refine q _ _ ((e4.trans (Ev.new hp2 _)).trans ((Ev.new hp3 _).trans (Ev.new hp4 _))) ⟨?_, ?_, ?_, ?_⟩
        · rw [len_tl, tl_join0, sgs_flat, hp.length_eq, List.length_append, ← len_tl]
          have := hA.lo
          omega
        · rw [len_tl, tl_join0, sgs_flat]
          exact hlen'
        · rw [tl_join0, sgs_flat]
          exact asc_of (sorted_sgs hsort) (hp.nodup_iff.mpr nd1)
        · rw [tl_join0, sgs_flat]
          intro c hc
          rcases List.mem_append.mp (hp.mem_iff.mp hc) with h | h
          · exact hA.low c h
          · rw [← hex] at h
            exact hO.low c (List.mem_filter.mp (List.mem_of_mem_take h)).1
def resv : List Str := ["reads", "prints", "for", "up", "down", "mark", "set", "clear", "if", "else", "print", "copy", "pass", "in", "before", "at", "not", "and", "or"].map Str.ofString
def spResv : Sp := fun vs H Q _ => vs = [] ∧ ∀ (p : Addr) (H' : Hp), Same H H' → H' p = some (.lst (resv.map V.str)) → Q (.ref p) H'
theorem ok_resv (F : Fun K "_law_reserved" "_law_reserved" s__law_reserved f fd) (T : Bt mg) : FnOk P w K mg base CX0 1 f fd [] spResv := by
  refine F.ok sc__law_reserved (fun vs H Q E h => ?_) (fun cdv A outer s H vs Q E hr h => ?_)
  · obtain ⟨rfl, _⟩ := h
    rfl
  obtain ⟨rfl, q⟩ := h
  refine ⟨_, (pss_cons (ps_set (i := 0) sc__law_reserved.nd rfl (by first | exact Or.inl rfl | exact Or.inr rfl) (pe_lst (pa_cons pe_str (pa_cons pe_str (pa_cons pe_str (pa_cons pe_str (pa_cons pe_str (pa_cons pe_str (pa_cons pe_str (pa_cons pe_str (pa_cons pe_str (pa_cons pe_str (pa_cons pe_str (pa_cons pe_str (pa_cons pe_str pa_nil)))))))))))))))
        (pss_one (ps_ret (pe_op op_cat (pv 0) (pe_lst (pa_cons pe_str (pa_cons pe_str (pa_cons pe_str (pa_cons pe_str (pa_cons pe_str (pa_cons pe_str pa_nil))))))))))), ?_⟩
  walk_at "rd"
  refine ⟨by decide, fun p hp => ⟨by decide, fun p2 hp2 => ⟨_, (upd_ne (ne_of_none upd_same hp2)).trans upd_same, _, upd_same, by decide, fun p3 hp3 => q p3 _ ?_ upd_same⟩⟩⟩
  exact (same_new hp _).trans ((same_new hp2 _).trans (same_new hp3 _))
end
end TW
/-! E6 -/
set_option Elab.async false
set_option linter.all false
set_option maxRecDepth 100000
set_option maxHeartbeats 4000000
namespace TW
open PySem L2 TL
/-! ### names -/
def okc (c : Nat) : Prop := (97 ≤ c ∧ c ≤ 122) ∨ (48 ≤ c ∧ c ≤ 57)
instance (c : Nat) : Decidable (okc c) := by unfold okc; infer_instance
structure NameOk (z : Str) : Prop where
  lo : 1 ≤ z.length
  hi : z.length ≤ 20
  fst : 97 ≤ (tl z).getD 0 0 ∧ (tl z).getD 0 0 ≤ 122
  all : ∀ c ∈ tl z, okc c
  free : z ∉ resv
def nameOkB (z : Str) : Bool := decide (1 ≤ z.length) && decide (z.length ≤ 20) && decide (97 ≤ (tl z).getD 0 0 ∧ (tl z).getD 0 0 ≤ 122) && (tl z).all (fun c => decide (okc c)) && decide (z ∉ resv)
theorem nameOk_of {z : Str} (h : nameOkB z = true) : NameOk z := by
  simp only [nameOkB, Bool.and_eq_true, decide_eq_true_eq, List.all_eq_true] at h
  exact ⟨h.1.1.1.1, h.1.1.1.2, h.1.1.2, h.1.2, h.2⟩
structure PoolOk (ps : List Str) : Prop where
  len : ps.length = 12
  nd : ps.Nodup
  ok : ∀ p ∈ ps, NameOk p
def pool0 : List Str := ["x", "y", "i2", "row", "k", "place7", "z0", "ab", "left", "n", "u1v", "q"].map Str.ofString
def pool1 : List Str := ["fort", "in2", "a", "atx", "notx", "no", "orr", "mark2", "set0", "copyx", "before1", "z"].map Str.ofString
theorem pool_by {ps : List Str} (h : (decide (ps.length = 12) && decide ps.Nodup && ps.all nameOkB) = true) : PoolOk ps := by
  simp only [Bool.and_eq_true, decide_eq_true_eq, List.all_eq_true] at h
  exact ⟨h.1.1, h.1.2, fun p hp => nameOk_of (h.2 p hp)⟩
theorem pool0_ok : PoolOk pool0 := pool_by (by decide +kernel)
theorem pool1_ok : PoolOk pool1 := pool_by (by decide +kernel)
def sgc (n : Nat) : Nat := if n < 26 then 97 + n else 22 + n
def sg36 : Str := Str.ofString "abcdefghijklmnopqrstuvwxyz0123456789"
theorem sg36_tl : tl sg36 = (List.range 36).map sgc := by decide +kernel
theorem sgc_ok {n : Nat} (h : n < 36) : okc (sgc n) := by
  unfold sgc okc
  split <;> omega
theorem sgc_low {n : Nat} (h : n < 26) : 97 ≤ sgc n ∧ sgc n ≤ 122 := by
  unfold sgc
  rw [if_pos h]
  omega
theorem sgc_inj {a b : Nat} (ha : a < 36) (hb : b < 36) (h : sgc a = sgc b) : a = b := by
  unfold sgc at h
  split at h <;> split at h <;> omega
theorem sg36_at {n : Int} (h0 : 0 ≤ n) (h1 : n < 36) : atI sg36.cps.toList n = some (sgc n.toNat) := by
  have e : n = ((n.toNat : Nat) : Int) := by omega
  rw [e]
  refine at_ofN ?_
  show (tl sg36)[n.toNat]? = _
  rw [sg36_tl, List.getElem?_map, List.getElem?_range (by omega)]
  rfl
/-- a stem: letters and digits, a letter first -/
structure StemOk (z : Str) (n : Nat) : Prop where
  len : z.length = n
  fst : ∀ c, (tl z)[0]? = some c → 97 ≤ c ∧ c ≤ 122
  all : ∀ c ∈ tl z, okc c
theorem resv_len : ∀ z ∈ resv, z.length ≤ 6 ∧ 55 ∉ tl z ∧ 48 ∉ tl z := by
  have h : (resv.all fun z => decide (z.length ≤ 6) && decide (55 ∉ tl z) && decide (48 ∉ tl z)) = true := by decide +kernel
  intro z hz
  have := List.all_eq_true.mp h z hz
  simp only [Bool.and_eq_true, decide_eq_true_eq] at this
  exact ⟨this.1.1, this.1.2, this.2⟩
def sev : Str := Str.ofString "7"
theorem sev_tl : tl sev = [55] := by decide +kernel
def fix (z : Str) : Str := if z ∈ resv then z ++ sev else z
/-- a name before it is held against the reserved words -/
structure PreOk (z : Str) : Prop where
  lo : 1 ≤ z.length
  hi : z.length ≤ 20
  fst : 97 ≤ (tl z).getD 0 0 ∧ (tl z).getD 0 0 ≤ 122
  all : ∀ c ∈ tl z, okc c
theorem fix_ok {z : Str} (h : PreOk z) : NameOk (fix z) := by
  unfold fix
  split
  · rename_i hz
    have r := resv_len z hz
    refine ⟨?_, ?_, ?_, ?_, ?_⟩
    · rw [len_tl, tl_cat, List.length_append, ← len_tl]
      have := h.lo
      omega
    · rw [len_tl, tl_cat, List.length_append, ← len_tl, sev_tl]
      show z.length + 1 ≤ 20
      omega
    · rw [tl_cat]
      have hl : 0 < (tl z).length := by rw [← len_tl]; exact h.lo
      rw [List.getD_eq_getElem?_getD, List.getElem?_append_left hl, ← List.getD_eq_getElem?_getD]
      exact h.fst
    · intro c hc
      rw [tl_cat, sev_tl] at hc
      rcases List.mem_append.mp hc with hc | hc
      · exact h.all c hc
      · rw [List.mem_singleton.mp hc]
        exact .inr (by omega)
    · intro hz2
      refine (resv_len _ hz2).2.1 ?_
      rw [tl_cat, sev_tl]
      simp
  · rename_i hz
    exact ⟨h.lo, h.hi, h.fst, h.all, hz⟩
theorem fix_inj {x y : Str} (h : fix x = fix y) : x = y ∨ (x ∈ resv ∧ y = x ++ sev) ∨ (y ∈ resv ∧ x = y ++ sev) := by
  unfold fix at h
  split at h <;> split at h
  · left
    have e := congrArg tl h
    rw [tl_cat, tl_cat] at e
    exact tl_ext (List.append_cancel_right e)
  · rename_i a b
    exact .inr (.inl ⟨a, h.symm⟩)
  · rename_i a b
    exact .inr (.inr ⟨b, h⟩)
  · exact .inl h
/-- the made names -/
theorem pool_made {nm : Nat → Str} (hp : ∀ k, k < 12 → PreOk (nm k)) (hi : ∀ j k, j < 12 → k < 12 → nm j = nm k → j = k) (h7 : ∀ j k, j < 12 → k < 12 → nm j ∈ resv → nm k ≠ nm j ++ sev) : PoolOk ((List.range 12).map fun k => fix (nm k)) := by
  refine ⟨by simp, ?_, ?_⟩
  · rw [List.nodup_iff_pairwise_ne, List.pairwise_map]
    refine (List.nodup_range (n := 12)).imp_of_mem fun {a b} ha hb hab e => ?_
    have ha := List.mem_range.mp ha
    have hb := List.mem_range.mp hb
    rcases fix_inj e with e | ⟨h1, h2⟩ | ⟨h1, h2⟩
    · exact hab (hi a b ha hb e)
    · exact h7 a b ha hb h1 h2
    · exact h7 b a hb ha h1 h2
  · intro p hp2
    obtain ⟨k, hk, rfl⟩ := List.mem_map.mp hp2
    exact fix_ok (hp k (List.mem_range.mp hk))
def raw (stem : Str) (h : Nat) (t : Nat) (k : Nat) : Str := (⟨((tl stem).take h).toArray⟩ ++ ⟨#[sgc ((t + 5 * k) % (if h = 0 then 26 else 36))]⟩) ++ ⟨((tl stem).drop h).toArray⟩
theorem raw_tl (stem : Str) (h t k : Nat) : tl (raw stem h t k) = (tl stem).take h ++ [sgc ((t + 5 * k) % (if h = 0 then 26 else 36))] ++ (tl stem).drop h := by
  unfold raw
  rw [tl_cat, tl_cat]
theorem raw_pool {stem : Str} {n h t : Nat} (S : StemOk stem n) (hn : n ≤ 19) (hh : h ≤ n) (ht : t < 12) : PoolOk ((List.range 12).map fun k => fix (raw stem h t k)) := by
  have hl : (tl stem).length = n := by rw [← len_tl]; exact S.len
  have hM : (if h = 0 then 26 else 36) = 26 ∧ h = 0 ∨ (if h = 0 then 26 else 36) = 36 ∧ h ≠ 0 := by
    by_cases e : h = 0
    · exact .inl ⟨if_pos e, e⟩
    · exact .inr ⟨if_neg e, e⟩
  have hlen : ∀ k, (raw stem h t k).length = n + 1 := fun k => by
    rw [len_tl, raw_tl, List.length_append, List.length_append, List.length_take, List.length_drop, hl]
    show min h n + 1 + (n - h) = n + 1
    omega
  refine pool_made (fun k hk => ⟨?_, ?_, ?_, ?_⟩) (fun j k hj hk e => ?_) (fun j k hj hk hr e => ?_)
  · rw [hlen]; omega
  · rw [hlen]; omega
  · rw [raw_tl]
    rcases hM with ⟨e, e0⟩ | ⟨e, e0⟩
    · rw [e, e0]
      exact sgc_low (Nat.mod_lt _ (by omega))
    · cases hs : tl stem with
      | nil => rw [hs] at hl; simp at hl; omega
      | cons c r =>
        obtain ⟨h', rfl⟩ : ∃ h', h = h' + 1 := ⟨h - 1, by omega⟩
        exact S.fst c (by rw [hs]; rfl)
  · intro c hc
    rw [raw_tl] at hc
    rcases List.mem_append.mp hc with hc | hc
    · rcases List.mem_append.mp hc with hc | hc
      · exact S.all c (List.mem_of_mem_take hc)
      · rw [List.mem_singleton.mp hc]
        refine sgc_ok ?_
        rcases hM with ⟨e, e0⟩ | ⟨e, e0⟩ <;> rw [e]
        · exact Nat.lt_trans (Nat.mod_lt _ (by omega)) (by omega)
        · exact Nat.mod_lt _ (by omega)
    · exact S.all c (List.mem_of_mem_drop hc)
  · have e2 := congrArg tl e
    rw [raw_tl, raw_tl] at e2
    have e3 := List.append_cancel_left (List.append_cancel_right e2)
    have e4 : sgc _ = sgc _ := (List.cons.inj e3).1
    rcases hM with ⟨e, e0⟩ | ⟨e, e0⟩ <;> rw [e] at e4
    · have := sgc_inj (Nat.lt_trans (Nat.mod_lt _ (by omega)) (by omega)) (Nat.lt_trans (Nat.mod_lt _ (by omega)) (by omega)) e4
      omega
    · have := sgc_inj (Nat.mod_lt _ (by omega)) (Nat.mod_lt _ (by omega)) e4
      omega
  · have e2 := congrArg Str.length e
    rw [hlen, len_tl, tl_cat, List.length_append, ← len_tl, hlen, sev_tl] at e2
    simp at e2
def zer : Str := Str.ofString "0"
def dub : Str := Str.ofString "w"
theorem zer_tl : tl zer = [48] := by decide +kernel
theorem dub_tl : tl dub = [119] := by decide +kernel
def lng (stem : Str) (k : Nat) : Str := ⟨((tl (stem ++ dub)).take 9).toArray⟩ ++ repS zer k
theorem rep_tl (k : Nat) : tl (repS zer k) = List.replicate k 48 := by
  unfold repS
  show (List.replicate k (tl zer)).flatten = _
  rw [zer_tl]
  induction k with
  | zero => rfl
  | succ k ih =>
    rw [List.replicate_succ, List.flatten_cons, ih]
    rfl
theorem lng_tl (stem : Str) (k : Nat) : tl (lng stem k) = (tl stem ++ [119]).take 9 ++ List.replicate k 48 := by
  unfold lng
  rw [tl_cat, rep_tl, tl_cat, dub_tl]
theorem lng_pool {stem : Str} {n : Nat} (S : StemOk stem n) : PoolOk ((List.range 12).map fun k => fix (lng stem k)) := by
  have hb : ((tl stem ++ [119]).take 9).length = min 9 (n + 1) := by
    rw [List.length_take, List.length_append, ← len_tl, S.len]
    rfl
  have hlen : ∀ k, (lng stem k).length = min 9 (n + 1) + k := fun k => by
    rw [len_tl, lng_tl, List.length_append, hb, List.length_replicate]
  have all9 : ∀ c ∈ (tl stem ++ [119]).take 9, okc c := fun c hc => by
    rcases List.mem_append.mp (List.mem_of_mem_take hc) with hc | hc
    · exact S.all c hc
    · rw [List.mem_singleton.mp hc]
      exact .inl (by omega)
  refine pool_made (fun k hk => ⟨?_, ?_, ?_, ?_⟩) (fun j k hj hk e => ?_) (fun j k hj hk hr e => ?_)
  · rw [hlen]; omega
  · rw [hlen]; omega
  · rw [lng_tl]
    cases hs : tl stem with
    | nil =>
      show 97 ≤ 119 ∧ 119 ≤ 122
      omega
    | cons c r =>
      exact S.fst c (by rw [hs]; rfl)
  · intro c hc
    rw [lng_tl] at hc
    rcases List.mem_append.mp hc with hc | hc
    · exact all9 c hc
    · rw [(List.mem_replicate.mp hc).2]
      exact .inr (by omega)
  · have e2 := congrArg Str.length e
    rw [hlen, hlen] at e2
    omega
  · have hj0 : j = 0 := by
      by_cases h0 : j = 0
      · exact h0
      · exfalso
        refine (resv_len _ hr).2.2 ?_
        rw [lng_tl]
        refine List.mem_append_right _ (List.mem_replicate.mpr ⟨h0, rfl⟩)
    subst hj0
    have e2 := congrArg Str.length e
    rw [hlen, len_tl, tl_cat, List.length_append, ← len_tl, hlen, sev_tl] at e2
    have hk1 : k = 1 := by
      simp at e2
      exact e2
    subst hk1
    have e3 := congrArg tl e
    rw [lng_tl, tl_cat, lng_tl, sev_tl] at e3
    rw [List.replicate_zero, List.append_nil] at e3
    have e4 := List.append_cancel_left e3
    simp at e4
/-- turned about -/
theorem pool_turn {ps : List Str} (h : PoolOk ps) {t st : Nat} (ht : t < 12) (hs : st = 1 ∨ st = 5 ∨ st = 7 ∨ st = 11) : PoolOk ((List.range 12).map fun k => ps.getD ((t + st * k) % 12) Str.empty) := by
  have hg : ∀ j, j < 12 → ∃ hj : j < ps.length, ps.getD j Str.empty = ps[j] := fun j hj => ⟨by rw [h.len]; exact hj, by rw [List.getD_eq_getElem?_getD, List.getElem?_eq_getElem (by rw [h.len]; exact hj)]; rfl⟩
  refine ⟨by simp, ?_, ?_⟩
  · rw [List.nodup_iff_pairwise_ne, List.pairwise_map]
    refine (List.nodup_range (n := 12)).imp_of_mem fun {a b} ha hb hab e => ?_
    have ha := List.mem_range.mp ha
    have hb := List.mem_range.mp hb
    obtain ⟨h1, e1⟩ := hg ((t + st * a) % 12) (Nat.mod_lt _ (by omega))
    obtain ⟨h2, e2⟩ := hg ((t + st * b) % 12) (Nat.mod_lt _ (by omega))
    rw [e1, e2] at e
    have e3 := (List.getElem_inj h.nd).mp e
    rcases hs with rfl | rfl | rfl | rfl <;> omega
  · intro p hp
    obtain ⟨k, hk, rfl⟩ := List.mem_map.mp hp
    obtain ⟨h1, e1⟩ := hg ((t + st * k) % 12) (Nat.mod_lt _ (by omega))
    rw [e1]
    exact h.ok _ (List.getElem_mem h1)
end TW
/-! E7 -/
set_option Elab.async false
set_option linter.all false
set_option maxRecDepth 100000
set_option maxHeartbeats 4000000
namespace TW
open PySem L2 TL
local macro_rules | `(tactic| walk_at "rd") => `(tactic| simp only [tSeq, tAsg, tOp, tUn, tVar, tCB, tCons, tNil, tRet, tDrop, gName, gSub, gTup, gCons, gNil, rI, rI0, rU, rIxL, rIxT, rIxS, rSetL, tC, L2.start, cxOf, tIfS, tIf, tTest, tB, tAnd, tOr, tNot, tAndV, tOrV, tNotV, tChain, tTup, tLst, tCall, tNext, tNever,
  rEq, rNe, tBM, tBM0, rCat, rRep, rIn, tSl, rSlL, rSlT, rSlS, rAll, rAny, rSortedS, rAppend, rPop, rExtend, tyV, tFld, tM1, tFmt, tJs, tRev, tKGet, rRvL, rRvT, rRvS, rExtendT, rLstS, rRepS, tNoPart, tPart, tYes, StX.tStar, wipe, rIx,
  List.map, List.length, List.replicate, List.append, List.nil_append, List.cons_append, List.append_nil, List.set, Nat.zero_add, Nat.add_zero, Nat.reduceAdd, Nat.reduceSub, List.getElem?_cons_zero, List.getElem?_cons_succ, List.length_cons, List.length_nil, List.set_cons_zero, List.set_cons_succ, List.getElem?_nil, Option.some.injEq, V.ref.injEq, V.int.injEq, V.str.injEq, V.bl.injEq, List.cons.injEq, and_true, true_and, exists_eq_left, exists_eq_left', exists_eq', exists_eq, exists_and_left, exists_const, reduceCtorEq, false_or, or_false, true_or, or_true, false_and, and_false, and_assoc, if_true, if_false, Bool.false_eq_true, Bool.true_eq_false])
local macro_rules | `(tactic| walk_at "rdd") => `(tactic| simp only [tSeq, tAsg, tOp, tUn, tVar, tCB, tCons, tNil, tRet, tDrop, gName, gSub, gTup, gCons, gNil, rI, rI0, rU, rIxL, rIxT, rIxS, rSetL, tC, L2.start, cxOf, tIfS, tIf, tTest, tB, tAnd, tOr, tNot, tAndV, tOrV, tNotV, tChain, tTup, tLst, tCall, tNext, tNever,
  rEq, rNe, tBM, tBM0, rCat, rRep, rIn, tSl, rSlL, rSlT, rSlS, rAll, rAny, rSortedS, rAppend, rPop, rExtend, tyV, tFld, tM1, tFmt, tJs, tRev, tKGet, rRvL, rRvT, rRvS, rExtendT, rLstS, rRepS, tNoPart, tPart, tYes, StX.tStar, wipe, rIx, tFor, tWhile, tLc, iList, iTup, iSeq, iStr, iRng1, iRng2, iEnumS, iZipS,
  List.map, List.length, List.replicate, List.append, List.nil_append, List.cons_append, List.append_nil, List.set, Nat.zero_add, Nat.add_zero, Nat.reduceAdd, Nat.reduceSub, List.getElem?_cons_zero, List.getElem?_cons_succ, List.length_cons, List.length_nil, List.set_cons_zero, List.set_cons_succ, List.getElem?_nil, Option.some.injEq, V.ref.injEq, V.int.injEq, V.str.injEq, V.bl.injEq, List.cons.injEq, and_true, true_and, exists_eq_left, exists_eq_left', exists_eq', exists_eq, exists_and_left, exists_const, reduceCtorEq, false_or, or_false, true_or, or_true, false_and, and_false, and_assoc, if_true, if_false, Bool.false_eq_true, Bool.true_eq_false])
section
variable {P : Program} {w : World} {K : PySem.W.Frag} {mg : Str → Option Value} {base : Heap} {f : Addr} {fd : FuncData}
theorem bool10 (i : Nat) : ∃ b : Int, (if decide ((0 : Int) < 0 + (i : Int)) = true then (1 : Int) else 0) = b ∧ ((i = 0 ∧ b = 0) ∨ (0 < i ∧ b = 1)) := by
  by_cases h : i = 0
  · exact ⟨0, by simp [h], .inl ⟨h, rfl⟩⟩
  · refine ⟨1, ?_, .inr ⟨by omega, rfl⟩⟩
    rw [if_pos (by simp; omega)]
theorem stem_more {stem : Str} {i n : Nat} (h : StemOk stem i) (hn : n < 36) (h0 : i = 0 → n < 26) : StemOk (stem ++ ⟨#[sgc n]⟩) (i + 1) := by
  have hl : (tl stem).length = i := by rw [← len_tl]; exact h.len
  refine ⟨by rw [len_tl, tl_cat, List.length_append, hl]; rfl, fun c hc => ?_, fun c hc => ?_⟩
  · rw [tl_cat] at hc
    by_cases hi : i = 0
    · have e : tl stem = [] := List.eq_nil_of_length_eq_zero (by omega)
      rw [e] at hc
      have e2 : sgc n = c := by simpa [tl] using hc
      rw [← e2]
      exact sgc_low (h0 hi)
    · rw [List.getElem?_append_left (by omega)] at hc
      exact h.fst c hc
  · rw [tl_cat] at hc
    rcases List.mem_append.mp hc with hc | hc
    · exact h.all c hc
    · have e2 : c = sgc n := by simpa [tl] using hc
      rw [e2]
      exact sgc_ok hn
theorem cut_hi (z : Str) {h : Int} (h0 : 0 ≤ h) : cutS z none (some h) = ⟨((tl z).take h.toNat).toArray⟩ := by
  have e : h = ((h.toNat : Nat) : Int) := by omega
  unfold cutS
  rw [HT.sIx_none, e, HT.sIx_nat, List.drop_zero, Nat.sub_zero, Int.toNat_natCast]
  by_cases hh : h.toNat ≤ z.length
  · rw [Nat.min_eq_left hh]
  · rw [Nat.min_eq_right (by omega), len_tl, List.take_of_length_le (Nat.le_refl _), List.take_of_length_le (by rw [← len_tl]; omega)]
theorem cut_lo (z : Str) {h : Int} (h0 : 0 ≤ h) : cutS z (some h) none = ⟨((tl z).drop h.toNat).toArray⟩ := by
  have e : h = ((h.toNat : Nat) : Int) := by omega
  unfold cutS
  rw [HT.sIx_none, e, HT.sIx_nat, Int.toNat_natCast]
  by_cases hh : h.toNat ≤ z.length
  · rw [Nat.min_eq_left hh, List.take_of_length_le (by rw [List.length_drop, ← len_tl]; exact Nat.le_refl _)]
  · rw [Nat.min_eq_right (by omega), Nat.sub_self, List.take_zero, List.drop_eq_nil_of_le (by rw [← len_tl]; omega)]
theorem inV_strs (z : Str) (l : List Str) : inV (V.str z) (l.map V.str) = decide (z ∈ l) := by
  induction l with
  | nil => rfl
  | cons x r ih =>
    show ((x == z) || inV (V.str z) (r.map V.str)) = _
    rw [ih, Bool.eq_iff_iff]
    rw [Bool.or_eq_true, decide_eq_true_iff, decide_eq_true_iff, beq_iff_eq, List.mem_cons]
    exact or_congr eq_comm Iff.rfl
theorem flat_strs (l : List Str) : (l.map V.str).all flatV = true := by
  induction l with
  | nil => rfl
  | cons x r ih =>
    show (true && (r.map V.str).all flatV) = true
    rw [ih]
    rfl
theorem intpos {h : Int} : ∃ b : Int, (if decide ((0 : Int) < h) = true then (1 : Int) else 0) = b ∧ ((h ≤ 0 ∧ b = 0) ∨ (0 < h ∧ b = 1)) := by
  by_cases c : 0 < h
  · exact ⟨1, by simp [c], .inr ⟨c, rfl⟩⟩
  · exact ⟨0, by simp [c], .inl ⟨by omega, rfl⟩⟩
def spPool : Sp := fun vs H Q _ => ∃ (r a : Addr), vs = [.ref r, .ref a] ∧ Dr H r a ∧ ∀ (p : Addr) (ps : List Str) (H' : Hp), Ev [a] H H' → H' p = some (.lst (ps.map V.str)) → PoolOk ps → Q (.ref p) H'
theorem ok_pool (F : Fun K "_law_pool" "_law_pool" s__law_pool f fd) (T : Bt mg) (C__law_draw : Cl P w K mg base "_law_draw" 1 ["row", "at", "size"] spDraw) (C__law_reserved : Cl P w K mg base "_law_reserved" 1 [] spResv) : FnOk P w K mg base CX0 2 f fd ["row", "at"] spPool := by
  refine F.ok sc__law_pool (fun vs H Q E h => ?_) (fun cdv A outer s H vs Q E hr h => ?_)
  · obtain ⟨r, a, rfl, _⟩ := h
    rfl
  obtain ⟨r, a, rfl, hd, q⟩ := h
  refine ⟨_, (pss_cons (ps_set (i := 2) sc__law_pool.nd rfl (by first | exact Or.inl rfl | exact Or.inr rfl) pe_str)
        (pss_cons (ps_set (i := 3) sc__law_pool.nd rfl (by first | exact Or.inl rfl | exact Or.inr rfl) (pe_call C__law_draw.ok (hr.mono (by omega)) (by rfl) C__law_draw.mg C__law_draw.kp C__law_draw.b .nil pass0 (pa_cons (pv 0) (pa_cons (pv 1) (pa_cons pe_int pa_nil)))))
        (pss_cons (ps_set (i := 4) sc__law_pool.nd rfl (by first | exact Or.inl rfl | exact Or.inr rfl) (pe_call C__law_draw.ok (hr.mono (by omega)) (by rfl) C__law_draw.mg C__law_draw.kp C__law_draw.b .nil pass0 (pa_cons (pv 0) (pa_cons (pv 1) (pa_cons pe_int pa_nil)))))
        (pss_cons (ps_set (i := 5) sc__law_pool.nd rfl (by first | exact Or.inl rfl | exact Or.inr rfl) (pe_ix (r := rIxL K) ix_list (pe_lst (pa_cons pe_int (pa_cons pe_int (pa_cons pe_int (pa_cons pe_int pa_nil))))) (pe_call C__law_draw.ok (hr.mono (by omega)) (by rfl) C__law_draw.mg C__law_draw.kp C__law_draw.b .nil pass0 (pa_cons (pv 0) (pa_cons (pv 1) (pa_cons pe_int pa_nil)))) (fun _ _ => rfl)))
        (pss_cons (ps_set (i := 6) sc__law_pool.nd rfl (by first | exact Or.inl rfl | exact Or.inr rfl) (pe_lst (pa_cons pe_str (pa_cons pe_str (pa_cons pe_str (pa_cons pe_str (pa_cons pe_str (pa_cons pe_str (pa_cons pe_str (pa_cons pe_str (pa_cons pe_str (pa_cons pe_str (pa_cons pe_str (pa_cons pe_str pa_nil))))))))))))))
        (pss_cons (ps_if (pt_cmpR op_eq (pv 3) pe_int (nomark _)) (pss_one (ps_set (i := 6) sc__law_pool.nd rfl (by first | exact Or.inl rfl | exact Or.inr rfl) (pe_lst (pa_cons pe_str (pa_cons pe_str (pa_cons pe_str (pa_cons pe_str (pa_cons pe_str (pa_cons pe_str (pa_cons pe_str (pa_cons pe_str (pa_cons pe_str (pa_cons pe_str (pa_cons pe_str (pa_cons pe_str pa_nil))))))))))))))) pss_nil)
        (pss_cons (ps_if (pt_cmpR op_gt (pv 3) pe_int (nomark _)) (pss_cons (ps_set (i := 7) sc__law_pool.nd rfl (by first | exact Or.inl rfl | exact Or.inr rfl) pe_str)
          (pss_cons (ps_for PassesOwn.never (by rfl) (pi_range1 (by rfl) T.b_range (pa_cons (pe_call C__law_draw.ok (hr.mono (by omega)) (by rfl) C__law_draw.mg C__law_draw.kp C__law_draw.b .nil pass0 (pa_cons (pv 0) (pa_cons (pv 1) (pa_cons pe_int pa_nil)))) pa_nil)) (pg_name (i := 8) sc__law_pool.nd rfl (by first | exact Or.inl rfl | exact Or.inr rfl)) (pss_one (ps_set (i := 7) sc__law_pool.nd rfl (by first | exact Or.inl rfl | exact Or.inr rfl) (pe_op op_add_str (pv 7) (pe_ix ix_str (pv 2) (pe_op op_mod (pe_op op_add (pe_call C__law_draw.ok (hr.mono (by omega)) (by rfl) C__law_draw.mg C__law_draw.kp C__law_draw.b .nil pass0 (pa_cons (pv 0) (pa_cons (pv 1) (pa_cons pe_int pa_nil)))) (pe_op op_mul pe_int (pe_call C__law_draw.ok (hr.mono (by omega)) (by rfl) C__law_draw.mg C__law_draw.kp C__law_draw.b .nil pass0 (pa_cons (pv 0) (pa_cons (pv 1) (pa_cons pe_int pa_nil)))))) (pe_op op_add pe_int (pe_op op_mul pe_int (pe_callTy call_int1 (by rfl) T.b_int (by decide +kernel) (pa_cons (pe_cmpR op_gt (pv 8) pe_int (nomark _)) pa_nil))))) (fun _ _ => rfl))))))
          (pss_cons (ps_set (i := 9) sc__law_pool.nd rfl (by first | exact Or.inl rfl | exact Or.inr rfl) (pe_op op_mod (pe_call C__law_draw.ok (hr.mono (by omega)) (by rfl) C__law_draw.mg C__law_draw.kp C__law_draw.b .nil pass0 (pa_cons (pv 0) (pa_cons (pv 1) (pa_cons pe_int pa_nil)))) (pe_op op_add (pe_callB call_len_str (by rfl) T.b_len PySem.boot_len (pa_cons (pv 7) pa_nil)) pe_int)))
          (pss_cons (ps_set (i := 6) sc__law_pool.nd rfl (by first | exact Or.inl rfl | exact Or.inr rfl) (pe_lst pa_nil))
          (pss_one (ps_for PassesOwn.never (by rfl) (pi_range1 (by rfl) T.b_range (pa_cons pe_int pa_nil)) (pg_name (i := 8) sc__law_pool.nd rfl (by first | exact Or.inl rfl | exact Or.inr rfl)) (pss_cons (ps_set (i := 10) sc__law_pool.nd rfl (by first | exact Or.inl rfl | exact Or.inr rfl) (pe_op op_add_str (pe_op op_add_str (pe_slice sl_str (pv 7) po_none (po_some (pv 9))) (pe_ix ix_str (pv 2) (pe_op op_mod (pe_op op_add (pv 4) (pe_op op_mul pe_int (pv 8))) (pe_op op_add pe_int (pe_op op_mul pe_int (pe_callTy call_int1 (by rfl) T.b_int (by decide +kernel) (pa_cons (pe_cmpR op_gt (pv 9) pe_int (nomark _)) pa_nil))))) (fun _ _ => rfl))) (pe_slice sl_str (pv 7) (po_some (pv 9)) po_none)))
            (pss_cons (ps_if (pt_cmpR op_eq (pv 3) pe_int (nomark _)) (pss_one (ps_set (i := 10) sc__law_pool.nd rfl (by first | exact Or.inl rfl | exact Or.inr rfl) (pe_op op_add_str (pe_slice sl_str (pe_op op_add_str (pv 7) pe_str) po_none (po_some pe_int)) (pe_op op_repS pe_str (pv 8))))) pss_nil)
            (pss_cons (ps_if (pt_cmpR op_in_seq (pv 10) (pe_call0 C__law_reserved.ok (hr.mono (by omega)) (by rfl) C__law_reserved.mg C__law_reserved.kp C__law_reserved.b .nil pass0) (by rfl)) (pss_one (ps_set (i := 10) sc__law_pool.nd rfl (by first | exact Or.inl rfl | exact Or.inr rfl) (pe_op op_add_str (pv 10) pe_str))) pss_nil)
            (pss_one (ps_expr (pe_bm PySem.F.plainAttrs_list PySem.F.slot_list_append PySem.F.type_list_append mt_append (pv 6) (pa_cons (pv 10) pa_nil))))))))))))) pss_nil)
        (pss_one (ps_ret (pe_lc (own := [("k", 8)]) (g := gName 8) (by rfl) sc__law_pool.nd (pi_range1 (by rfl) T.b_range (pa_cons pe_int pa_nil)) (blkOk_by (N := ["row", "at", "signs", "kind", "turn", "step", "pool", "stem", "k", "here", "name"]) (sc := defScope s__law_pool) (by decide +kernel)) (fun _ _ _ _ _ => pg_name (i := 8) sc__law_pool.nd rfl (by first | exact Or.inl rfl | exact Or.inr rfl)) (fun _ _ _ _ _ => pts_nil) (fun _ _ _ _ _ => (pe_ix (r := rIxL K) ix_list (pv 6) (pe_op op_mod (pe_callTy call_int1 (by rfl) T.b_int (by decide +kernel) (pa_cons (pe_op op_add (pv 4) (pe_op op_mul (pv 5) (pv 8))) pa_nil)) pe_int) (fun _ _ => rfl))))))))))))), ?_⟩
  walk_at "rd"
  refine ⟨r, a, 4, rfl, hd, by omega, fun kd H1 k0 k1 e1 => ?_⟩
  refine ⟨r, a, 12, rfl, hd.ev e1, by omega, fun tn H2 t0 t1 e2 => ?_⟩
  refine ⟨by decide, fun p1 hp1 => ?_⟩
  have e3 := (e1.trans e2).trans (Ev.new hp1 (.lst ([1, 5, 7, 11].map V.int)))
  refine ⟨r, a, 4, rfl, hd.ev e3, by omega, fun si H3 s0 s1 e4 => ?_⟩
  have hL := e4.obj (b := p1) (o := .lst ([1, 5, 7, 11].map V.int)) upd_same (fun i q => by simp at q)
  obtain ⟨st, hst, hat⟩ := pick_int [1, 5, 7, 11] s0 s1
  have e5 := e3.trans e4
  have hst4 : st = 1 ∨ st = 5 ∨ st = 7 ∨ st = 11 := by simpa using hst
  have fin : ∀ (p5 : Addr) (ps5 : List Str) (H5 : Hp) (c7 c8 c9 c10 : Option V), Ev [a] H H5 → PoolOk ps5 → H5 p5 = some (.lst (ps5.map V.str)) →
      tLc (iRng1 (tCons (tC (V.int 12)) tNil)) (gName 8) tYes
        (tOp (rIxL K) (tVar 6)
          (tOp (rI (fun x j => 0 < j) fun i j => V.int (i % j))
            (tCB (fun xs H Q => (∃ i, xs = [V.int i] ∧ Q (V.int i) H) ∨ ∃ k, xs = [V.bl k] ∧ Q (V.int (if k = true then 1 else 0)) H)
              (tCons (tOp (rI0 fun i j => V.int (i + j)) (tVar 4) (tOp (rI CMul fun i j => V.int (i * j)) (tVar 5) (tVar 8))) tNil))
            (tC (V.int 12)))) [8] [some (.ref r), some (.ref a), some (.str sg36), some (.int kd), some (.int tn), some (.int st), some (.ref p5), c7, c8, c9, c10] H5 Q := by
    intro p5 ps5 H5 c7 c8 c9 c10 e9 hok hp5
    refine ⟨12, rfl, by omega, by omega, fun D hD => lc_range (lo := 0) (n := 12) (fun i H' => H' = upd H5 D (.lst (((List.range i).map fun k => ps5.getD ((tn.toNat + st.toNat * k) % 12) Str.empty).map V.str))) rfl ?_ ?_⟩
    · rintro i H' hi rfl
      walk_at "rd"
      have hix : (tn + st * (0 + (i : Int))) % 12 = (((tn.toNat + st.toNat * i) % 12 : Nat) : Int) := by
        rcases hst4 with rfl | rfl | rfl | rfl <;> simp only [Int.reduceToNat] <;> omega
      have hlt : (tn.toNat + st.toNat * i) % 12 < ps5.length := by rw [hok.len]; exact Nat.mod_lt _ (by omega)
      have hat2 : atI (ps5.map V.str) ((tn + st * (0 + (i : Int))) % 12) = some (.str (ps5.getD ((tn.toNat + st.toNat * i) % 12) Str.empty)) := by
        rw [hix]
        refine at_ofN ?_
        rw [List.getElem?_map, List.getD_eq_getElem?_getD, List.getElem?_eq_getElem hlt]
        rfl
      refine ⟨.inl ⟨by omega, by omega⟩, by omega, _, SqL.of ((upd_ne (ne_of_none hp5 hD)).trans hp5), _, hat2, _, upd_same, by rw [List.length_map, List.length_map, List.length_range]; exact small1000 (by omega), ?_⟩
      rw [upd_upd, List.range_succ, List.map_append, List.map_append]
      rfl
    · rintro H' rfl
      exact q D _ _ (e9.over (e9.free hD)) upd_same (pool_turn hok (by omega) (by omega))
  refine ⟨_, si, rfl, SqL.of hL, .int st, hat, by decide, fun p2 hp2 => ⟨rfl, ?_⟩⟩
  have e6 : Ev [a] H (upd H3 p2 (.lst (pool0.map V.str))) := e5.trans (Ev.new hp2 _)
  by_cases hk1 : kd = 1
  · subst hk1
    refine iteT ⟨by decide, fun p3 hp3 => ⟨1, rfl, iteF ?_⟩⟩
    exact fin p3 pool1 _ none none none none (e6.trans (Ev.new hp3 _)) pool1_ok upd_same
  · rw [if_neg (by simpa using hk1)]
    by_cases hk2 : 1 < kd
    · refine ⟨kd, rfl, ?_⟩
      rw [if_pos (by simpa using hk2)]
      refine ⟨_, rfl, _, rfl, r, a, 20, rfl, hd.ev e6, by omega, fun ln H6 l0 l1 e7 => ⟨ln, rfl, by omega, by omega, for_range (lo := 0) (n := ln.toNat) (fun i σ H' => ∃ (c8 : Option V) (stem : Str), σ = [some (.ref r), some (.ref a), some (.str sg36), some (.int kd), some (.int tn), some (.int st), some (.ref p2), some (.str stem), c8, none, none] ∧ StemOk stem i ∧ Ev [a] H H')
        ⟨none, Str.ofString "", rfl, ⟨rfl, by rw [tl_empty]; simp, by rw [tl_empty]; simp⟩, e6.trans e7⟩ ?_ ?_⟩⟩
      · rintro i σ H' hi ⟨c8, stem, rfl, hS, e8⟩
        walk_at "rd"
        obtain ⟨b, hb, hb2⟩ := bool10 i
        rw [hb]
        have hl : (tl stem).length = i := by rw [← len_tl]; exact hS.len
        refine ⟨r, a, 24, rfl, hd.ev e8, by omega, fun x H7 x0 x1 e9 => ⟨r, a, 2, rfl, hd.ev (e8.trans e9), by omega, fun y H8 y0 y1 e10 => ⟨y, rfl, .inl ⟨by omega, by omega⟩, x, rfl, .inl ⟨by omega, by omega⟩, by omega, by decide, ?_⟩⟩⟩
        have g0 : 0 ≤ (x + 13 * y) % (26 + 10 * b) := Int.emod_nonneg _ (by omega)
        have g1 : (x + 13 * y) % (26 + 10 * b) < 26 + 10 * b := Int.emod_lt_of_pos _ (by omega)
        generalize (x + 13 * y) % (26 + 10 * b) = g at g0 g1
        refine ⟨_, sg36_at g0 (by omega), ?_, stem_more hS (by omega) (by omega), (e8.trans e9).trans e10⟩
        show stem.length + 1 ≤ sizeLine
        rw [len_tl, hl]
        exact Nat.le_of_lt (small1000 (by omega))
      · rintro σ H' ⟨c8, stem, rfl, hS, e8⟩
        have hl : (tl stem).length = ln.toNat := by rw [← len_tl]; exact hS.len
        have hsl : stem.length = ln.toNat := hS.len
        have big : ∀ n : Nat, n ≤ 1000 → n ≤ sizeLine := fun n h => Nat.le_of_lt (small1000 h)
        walk_at "rd"
        refine ⟨r, a, 24, rfl, hd.ev e8, by omega, fun x H7 x0 x1 e9 => ⟨big _ (by omega), x, rfl, by omega, by omega, fun p8 hp8 => ?_⟩⟩
        have g0 : 0 ≤ x % ((stem.length : Int) + 1) := Int.emod_nonneg _ (by omega)
        have g1 : x % ((stem.length : Int) + 1) < (stem.length : Int) + 1 := Int.emod_lt_of_pos _ (by omega)
        generalize x % ((stem.length : Int) + 1) = hh at g0 g1
        have e11 := (e8.trans e9)
        have hp80 : H p8 = none := e11.free hp8
        have hp8a : p8 ∉ [a] := by
          intro z
          have z : p8 = a := by simpa using z
          obtain ⟨_, j, hj⟩ := hd
          rw [← z, hp80] at hj
          cases hj
        obtain ⟨nm, hnm⟩ : ∃ nm : Nat → Str, nm = fun k => if kd = 3 then lng stem k else raw stem hh.toNat tn.toNat k := ⟨_, rfl⟩
        have hPool : PoolOk ((List.range 12).map fun k => fix (nm k)) := by
          rw [hnm]
          by_cases h3 : kd = 3
          · simp only [if_pos h3]
            exact lng_pool hS
          · simp only [if_neg h3]
            exact raw_pool hS (by omega) (by omega) (by omega)
        refine ⟨12, rfl, by omega, by omega, for_range (lo := 0) (n := 12) (fun i σ H' => ∃ (c8 c10 : Option V), σ = [some (.ref r), some (.ref a), some (.str sg36), some (.int kd), some (.int tn), some (.int st), some (.ref p8), some (.str stem), c8, some (.int hh), c10] ∧ Ev [a] H H' ∧ H' p8 = some (.lst (((List.range i).map fun k => fix (nm k)).map V.str)))
          ⟨_, _, rfl, e11.over hp80, upd_same⟩ ?_ ?_⟩
        · rintro i σ H9 hi ⟨c8, c10, rfl, e12, hp9⟩
          walk_at "rd"
          obtain ⟨b, hb, hb2⟩ := intpos (h := hh)
          rw [hb, cut_hi stem g0, cut_lo stem g0]
          have q0 : 0 ≤ (tn + 5 * (0 + (i : Int))) % (26 + 10 * b) := Int.emod_nonneg _ (by omega)
          have q1 : (tn + 5 * (0 + (i : Int))) % (26 + 10 * b) < 26 + 10 * b := Int.emod_lt_of_pos _ (by omega)
          have hat3 := sg36_at q0 (by omega)
          have hraw : (⟨((tl stem).take hh.toNat).toArray⟩ : Str) ++ ⟨#[sgc ((tn + 5 * (0 + (i : Int))) % (26 + 10 * b)).toNat]⟩ ++ ⟨((tl stem).drop hh.toNat).toArray⟩ = raw stem hh.toNat tn.toNat i := by
            have : ((tn + 5 * (0 + (i : Int))) % (26 + 10 * b)).toNat = (tn.toNat + 5 * i) % (if hh.toNat = 0 then 26 else 36) := by
              rcases hb2 with ⟨h1, rfl⟩ | ⟨h1, rfl⟩
              · rw [if_pos (by omega)]
                omega
              · rw [if_neg (by omega)]
                omega
            rw [this]
            rfl
          have l1 : (⟨((tl stem).take hh.toNat).toArray⟩ : Str).length ≤ 100 := by
            rw [len_tl]
            show ((tl stem).take hh.toNat).length ≤ 100
            rw [List.length_take]
            omega
          have l2 : (⟨((tl stem).drop hh.toNat).toArray⟩ : Str).length ≤ 100 := by
            rw [len_tl]
            show ((tl stem).drop hh.toNat).length ≤ 100
            rw [List.length_drop]
            omega
          have cl : ∀ (x y : Str), (x ++ y).length = x.length + y.length := fun x y => by rw [len_tl, tl_cat, List.length_append, ← len_tl, ← len_tl]
          have hone : ∀ c : Nat, (⟨#[c]⟩ : Str).length = 1 := fun c => rfl
          have fl := (hPool.ok (fix (nm i)) (List.mem_map.mpr ⟨i, List.mem_range.mpr hi, rfl⟩)).hi
          have fl2 : (nm i).length ≤ 20 := by
            unfold fix at fl
            split at fl
            · rw [cl] at fl
              omega
            · exact fl
          refine ⟨big _ (by omega), .inl ⟨by omega, by omega⟩, .inl ⟨by omega, by omega⟩, by omega, by decide, _, hat3, big _ (by rw [hone]; omega), big _ (by omega), big _ (by rw [cl, hone]; omega), rfl, ite2 (fun c => ?_) (fun c => ?_)⟩
          · have c3 : kd = 3 := by simpa using c
            have hz : cutS (stem ++ Str.ofString "w") none (some 9) ++ repS (Str.ofString "0") (0 + (i : Int)).toNat = nm i := by
              rw [hnm, cut_hi _ (by omega)]
              simp only [if_pos c3]
              show _ = lng stem i
              unfold lng
              rw [show (0 + (i : Int)).toNat = i by omega]
              rfl
            have lz := congrArg Str.length hz
            rw [cl] at lz
            rw [hz]
            refine ⟨big _ (by show stem.length + 1 ≤ 1000; omega), big _ (by rw [cl]; show stem.length + 1 ≤ 1000; omega), by omega, by omega, by decide, big _ (by omega), rfl, fun pr H10 s10 hr10 => ⟨pr, rfl, _, .inl (SqL.of hr10), rfl, flat_strs _, ?_⟩⟩
            rw [inV_strs]
            have hp10 := s10 _ _ hp9
            have e13 : Ev [a] H H10 := e12.trans (Ev.of_same s10)
            refine ite2 (fun c5 => ?_) (fun c5 => ?_)
            · have hfix : fix (nm i) = nm i ++ Str.ofString "7" := if_pos (by simpa using c5)
              refine ⟨big _ (by show (nm i).length + 1 ≤ 1000; omega), .inl ⟨_, SqL.of hp10⟩, _, hp10, by rw [List.length_map, List.length_map, List.length_range]; exact small1000 (by omega), e13.over hp80, ?_⟩
              rw [upd_same, List.range_succ, List.map_append, List.map_append, ← hfix]
              rfl
            · have hfix : fix (nm i) = nm i := if_neg (by simpa using c5)
              refine ⟨.inl ⟨_, SqL.of hp10⟩, _, hp10, by rw [List.length_map, List.length_map, List.length_range]; exact small1000 (by omega), e13.over hp80, ?_⟩
              rw [upd_same, List.range_succ, List.map_append, List.map_append]
              show _ = some (HO.lst (_ ++ [V.str (fix (nm i))]))
              rw [hfix]
          · have c3 : ¬ kd = 3 := by simpa using c
            have hz := hraw.trans (show raw stem hh.toNat tn.toNat i = nm i by rw [hnm]; simp only [if_neg c3])
            rw [hz]
            refine ⟨rfl, fun pr H10 s10 hr10 => ⟨pr, rfl, _, .inl (SqL.of hr10), rfl, flat_strs _, ?_⟩⟩
            rw [inV_strs]
            have hp10 := s10 _ _ hp9
            have e13 : Ev [a] H H10 := e12.trans (Ev.of_same s10)
            refine ite2 (fun c5 => ?_) (fun c5 => ?_)
            · have hfix : fix (nm i) = nm i ++ Str.ofString "7" := if_pos (by simpa using c5)
              refine ⟨big _ (by show (nm i).length + 1 ≤ 1000; omega), .inl ⟨_, SqL.of hp10⟩, _, hp10, by rw [List.length_map, List.length_map, List.length_range]; exact small1000 (by omega), e13.over hp80, ?_⟩
              rw [upd_same, List.range_succ, List.map_append, List.map_append, ← hfix]
              rfl
            · have hfix : fix (nm i) = nm i := if_neg (by simpa using c5)
              refine ⟨.inl ⟨_, SqL.of hp10⟩, _, hp10, by rw [List.length_map, List.length_map, List.length_range]; exact small1000 (by omega), e13.over hp80, ?_⟩
              rw [upd_same, List.range_succ, List.map_append, List.map_append]
              show _ = some (HO.lst (_ ++ [V.str (fix (nm i))]))
              rw [hfix]
        · rintro σ H9 ⟨c8, c10, rfl, e12, hp9⟩
          exact fin p8 _ _ _ _ _ _ e12 hPool hp9
    · refine ⟨kd, rfl, ?_⟩
      rw [if_neg (by simpa using hk2)]
      exact fin p2 pool0 _ none none none none e6 pool0_ok upd_same
end
end TW
/-! D2 -/
set_option Elab.async false
set_option linter.all false
set_option maxRecDepth 100000
set_option maxHeartbeats 4000000
namespace TW
open PySem L2 TL
/-! ### tests and statements -/
inductive Tst where
  | p3 (w x y : Str)
  | mk (m : Str)
  | no (t : Tst)
  | bi (w : Str) (a b : Tst)
def Tst.enc : Tst → D
  | .p3 w x y => .n [.s w, .s x, .s y]
  | .mk m => .n [.s (Str.ofString "mark"), .s m]
  | .no t => .n [.s (Str.ofString "not"), t.enc]
  | .bi w a b => .n [.s w, a.enc, b.enc]
def Tst.ok (al : Str) (L M : List Str) : Tst → Prop
  | .p3 w x y => (w = Str.ofString "in" ∧ x ∈ L ∧ LetOk al y) ∨ ((w = Str.ofString "before" ∨ w = Str.ofString "same") ∧ x ∈ L ∧ y ∈ L)
  | .mk m => m ∈ M
  | .no t => t.ok al L M
  | .bi w a b => (w = Str.ofString "and" ∨ w = Str.ofString "or") ∧ a.ok al L M ∧ b.ok al L M
def Tst.dep : Tst → Nat
  | .p3 _ _ _ => 0
  | .mk _ => 0
  | .no t => t.dep + 1
  | .bi _ a b => max a.dep b.dep + 1
inductive Stm where
  | loop (x w : Str) (b : List Stm)
  | mark (x : Str) (b : List Stm)
  | cond (t : Tst) (a b : List Stm)
  | leaf (w x : Str)
mutual
def Stm.enc : Stm → D
  | .loop x w b => .n [.s (Str.ofString "for"), .s x, .s w, .n (encL b)]
  | .mark x b => .n [.s (Str.ofString "mark"), .s x, .n (encL b)]
  | .cond t a b => .n [.s (Str.ofString "if"), t.enc, .n (encL a), .n (encL b)]
  | .leaf w x => .n [.s w, .s x]
def encL : List Stm → List D
  | [] => []
  | s :: r => s.enc :: encL r
end
theorem encL_append : ∀ (a b : List Stm), encL (a ++ b) = encL a ++ encL b
  | [], b => by simp [encL]
  | s :: r, b => by
    show s.enc :: encL (r ++ b) = (s.enc :: encL r) ++ encL b
    rw [encL_append r b]
    rfl
theorem encL_map : ∀ (a : List Stm), encL a = a.map Stm.enc
  | [] => by simp [encL]
  | s :: r => by
    show s.enc :: encL r = _
    rw [encL_map r]
    rfl
theorem encL_len (a : List Stm) : (encL a).length = a.length := by rw [encL_map, List.length_map]
def leafOk (al pr : Str) (L M : List Str) (w x : Str) : Prop :=
  ((w = Str.ofString "set" ∨ w = Str.ofString "clear") ∧ x ∈ M) ∨ (w = Str.ofString "copy" ∧ x ∈ L ∧ ∀ c ∈ tl al, c ∈ tl pr) ∨ (w = Str.ofString "print" ∧ 1 ≤ x.length ∧ x.length ≤ 40 ∧ ∀ c ∈ tl x, c ∈ tl pr)
mutual
def Stm.ok (al pr : Str) : List Str → List Str → Stm → Prop
  | L, M, .loop x w b => NameOk x ∧ (w = Str.ofString "up" ∨ w = Str.ofString "down") ∧ okL al pr (L ++ [x]) M b
  | L, M, .mark x b => NameOk x ∧ okL al pr L (M ++ [x]) b
  | L, M, .cond t a b => t.ok al L M ∧ t.dep ≤ 4 ∧ okL al pr L M a ∧ okL al pr L M b
  | L, M, .leaf w x => leafOk al pr L M w x
def okL (al pr : Str) : List Str → List Str → List Stm → Prop
  | _, _, [] => True
  | L, M, s :: r => s.ok al pr L M ∧ okL al pr L M r
end
theorem okL_append {al pr : Str} {L M : List Str} : ∀ {a b : List Stm}, okL al pr L M a → okL al pr L M b → okL al pr L M (a ++ b)
  | [], b, _, h => h
  | s :: r, b, h, k => by
    unfold okL at h
    show s.ok al pr L M ∧ okL al pr L M (r ++ b)
    exact ⟨h.1, okL_append h.2 k⟩
theorem okL_cons {al pr : Str} {L M : List Str} {s : Stm} {r : List Stm} : okL al pr L M (s :: r) ↔ s.ok al pr L M ∧ okL al pr L M r := by
  constructor
  · intro h; unfold okL at h; exact h
  · intro h; unfold okL; exact h
theorem okL_nil {al pr : Str} {L M : List Str} : okL al pr L M [] := by unfold okL; exact trivial
mutual
/-- the names of loops and marks, in the order of the text -/
def Stm.names : Stm → List Str
  | .loop x _ b => x :: namesL b
  | .mark x b => x :: namesL b
  | .cond _ a b => namesL a ++ namesL b
  | .leaf _ _ => []
def namesL : List Stm → List Str
  | [] => []
  | s :: r => s.names ++ namesL r
end
theorem namesL_append : ∀ (a b : List Stm), namesL (a ++ b) = namesL a ++ namesL b
  | [], b => by simp [namesL]
  | s :: r, b => by
    show s.names ++ namesL (r ++ b) = (s.names ++ namesL r) ++ namesL b
    rw [namesL_append r b, List.append_assoc]
mutual
def Stm.dep : Stm → Nat
  | .loop _ _ b => depL b + 1
  | .mark _ b => depL b + 1
  | .cond _ a b => max (depL a) (depL b) + 1
  | .leaf _ _ => 0
def depL : List Stm → Nat
  | [] => 0
  | s :: r => max s.dep (depL r)
end
theorem depL_append : ∀ (a b : List Stm), depL (a ++ b) = max (depL a) (depL b)
  | [], b => by simp [depL]
  | s :: r, b => by
    show max s.dep (depL (r ++ b)) = max (max s.dep (depL r)) (depL b)
    rw [depL_append r b, Nat.max_assoc]
mutual
/-- how much there is to write and to hold -/
def Stm.wt : Stm → Nat
  | .loop _ _ b => wtL b + 200
  | .mark _ b => wtL b + 200
  | .cond _ a b => wtL a + wtL b + 1100
  | .leaf _ _ => 110
def wtL : List Stm → Nat
  | [] => 0
  | s :: r => s.wt + wtL r
end
theorem wtL_append : ∀ (a b : List Stm), wtL (a ++ b) = wtL a + wtL b
  | [], b => by simp [wtL]
  | s :: r, b => by
    show s.wt + wtL (r ++ b) = (s.wt + wtL r) + wtL b
    rw [wtL_append r b, Nat.add_assoc]
/-- the largest weight of a nest of statements: 1100 and twice three statements of one level less -/
def Wmax : Nat → Nat
  | 0 => 110
  | d + 1 => 6 * Wmax d + 1100
theorem Wmax_ge (d : Nat) : 110 ≤ Wmax d := by
  cases d with
  | zero => exact Nat.le_refl _
  | succ d => show 110 ≤ 6 * Wmax d + 1100; omega
theorem Wmax_mono {a b : Nat} (h : a ≤ b) : Wmax a ≤ Wmax b := by
  induction h with
  | refl => exact Nat.le_refl _
  | step _ ih => exact Nat.le_trans ih (by show _ ≤ 6 * Wmax _ + 1100; omega)
/-! ### the world of the draws -/
structure Wd (H : Hp) (a wd pa ua ba : Addr) (al pr : Str) (ps : List Str) (u : Nat) : Prop where
  hwd : H wd = some (.lst [.str al, .str pr, .ref pa, .ref ua, .ref ba])
  hpa : H pa = some (.lst (ps.map V.str))
  hua : H ua = some (.lst [.int (u : Int)])
  hba : ∃ b : Int, H ba = some (.lst [.int b])
  ne1 : ua ≠ a
  ne2 : ua ≠ ba
theorem Wd.ev {H H' : Hp} {a wd pa ua ba : Addr} {al pr : Str} {ps : List Str} {u : Nat} {l : List Addr} (W : Wd H a wd pa ua ba al pr ps u) (e : Ev l H H') (hu : ua ∉ l) : Wd H' a wd pa ua ba al pr ps u := by
  obtain ⟨h1, h2, h3, ⟨b, h4⟩, n1, n2⟩ := W
  exact ⟨e.obj h1 (fun i q => by simp at q), e.obj h2 strs_ne, e.out h3 hu, e.ctr h4, n1, n2⟩
/-- after draws that also used names -/
theorem Wd.ev' {H H' : Hp} {a wd pa ua ba : Addr} {al pr : Str} {ps : List Str} {u u' : Nat} {l : List Addr} (W : Wd H a wd pa ua ba al pr ps u) (e : Ev l H H') (h : H' ua = some (.lst [.int (u' : Int)])) : Wd H' a wd pa ua ba al pr ps u' := by
  obtain ⟨h1, h2, h3, ⟨b, h4⟩, n1, n2⟩ := W
  exact ⟨e.obj h1 (fun i q => by simp at q), e.obj h2 strs_ne, h, e.ctr h4, n1, n2⟩
theorem Strs.ev {H H' : Hp} {l : List Addr} {p : Addr} {ys : List Str} (h : H p = some (.lst (ys.map V.str))) (e : Ev l H H') : H' p = some (.lst (ys.map V.str)) := e.obj h strs_ne
end TW
/-! E8 -/
set_option Elab.async false
set_option linter.all false
set_option maxRecDepth 100000
set_option maxHeartbeats 4000000
namespace TW
open PySem L2 TL
local macro_rules | `(tactic| walk_at "rd") => `(tactic| simp only [tSeq, tAsg, tOp, tUn, tVar, tCB, tCons, tNil, tRet, tDrop, gName, gSub, gTup, gCons, gNil, rI, rI0, rU, rIxL, rIxT, rIxS, rSetL, tC, L2.start, cxOf, tIfS, tIf, tTest, tB, tAnd, tOr, tNot, tAndV, tOrV, tNotV, tChain, tTup, tLst, tCall, tNext, tNever,
  rEq, rNe, tBM, tBM0, rCat, rRep, rIn, tSl, rSlL, rSlT, rSlS, rAll, rAny, rSortedS, rAppend, rPop, rExtend, tyV, tFld, tM1, tFmt, tJs, tRev, tKGet, rRvL, rRvT, rRvS, rExtendT, rLstS, rRepS, tNoPart, tPart, tYes, StX.tStar, wipe, rIx,
  List.map, List.length, List.replicate, List.append, List.nil_append, List.cons_append, List.append_nil, List.set, Nat.zero_add, Nat.add_zero, Nat.reduceAdd, Nat.reduceSub, List.getElem?_cons_zero, List.getElem?_cons_succ, List.length_cons, List.length_nil, List.set_cons_zero, List.set_cons_succ, List.getElem?_nil, Option.some.injEq, V.ref.injEq, V.int.injEq, V.str.injEq, V.bl.injEq, List.cons.injEq, and_true, true_and, exists_eq_left, exists_eq_left', exists_eq', exists_eq, exists_and_left, exists_const, reduceCtorEq, false_or, or_false, true_or, or_true, false_and, and_false, and_assoc, if_true, if_false, Bool.false_eq_true, Bool.true_eq_false])
local macro_rules | `(tactic| walk_at "rdd") => `(tactic| simp only [tSeq, tAsg, tOp, tUn, tVar, tCB, tCons, tNil, tRet, tDrop, gName, gSub, gTup, gCons, gNil, rI, rI0, rU, rIxL, rIxT, rIxS, rSetL, tC, L2.start, cxOf, tIfS, tIf, tTest, tB, tAnd, tOr, tNot, tAndV, tOrV, tNotV, tChain, tTup, tLst, tCall, tNext, tNever,
  rEq, rNe, tBM, tBM0, rCat, rRep, rIn, tSl, rSlL, rSlT, rSlS, rAll, rAny, rSortedS, rAppend, rPop, rExtend, tyV, tFld, tM1, tFmt, tJs, tRev, tKGet, rRvL, rRvT, rRvS, rExtendT, rLstS, rRepS, tNoPart, tPart, tYes, StX.tStar, wipe, rIx, tFor, tWhile, tLc, iList, iTup, iSeq, iStr, iRng1, iRng2, iEnumS, iZipS,
  List.map, List.length, List.replicate, List.append, List.nil_append, List.cons_append, List.append_nil, List.set, Nat.zero_add, Nat.add_zero, Nat.reduceAdd, Nat.reduceSub, List.getElem?_cons_zero, List.getElem?_cons_succ, List.length_cons, List.length_nil, List.set_cons_zero, List.set_cons_succ, List.getElem?_nil, Option.some.injEq, V.ref.injEq, V.int.injEq, V.str.injEq, V.bl.injEq, List.cons.injEq, and_true, true_and, exists_eq_left, exists_eq_left', exists_eq', exists_eq, exists_and_left, exists_const, reduceCtorEq, false_or, or_false, true_or, or_true, false_and, and_false, and_assoc, if_true, if_false, Bool.false_eq_true, Bool.true_eq_false])
section
variable {P : Program} {w : World} {K : PySem.W.Frag} {mg : Str → Option Value} {base : Heap} {f : Addr} {fd : FuncData}
theorem pick_mod (l : List Str) (hl : l ≠ []) (v : Int) : ∃ m ∈ l, atI (l.map V.str) (v % ((l.map V.str).length : Nat)) = some (.str m) := by
  have hn : 0 < (l.map V.str).length := by rw [List.length_map]; exact List.length_pos_iff.mpr hl
  obtain ⟨j, hj, e⟩ := mod_ix (v := v) hn
  rw [e]
  rw [List.length_map] at hj
  refine ⟨l[j], List.getElem_mem hj, at_ofN ?_⟩
  rw [List.getElem?_map, List.getElem?_eq_getElem hj]
  rfl
/-- what the draws of tests and leaves stand in -/
structure Scn (H : Hp) (r a wd la ma pa ua ba : Addr) (al pr : Str) (ps L M : List Str) (u : Nat) : Prop where
  dr : Dr H r a
  wd : Wd H a wd pa ua ba al pr ps u
  la : H la = some (.lst (L.map V.str))
  ma : H ma = some (.lst (M.map V.str))
theorem Scn.ev {H H' : Hp} {r a wd la ma pa ua ba : Addr} {al pr : Str} {ps L M : List Str} {u : Nat} (S : Scn H r a wd la ma pa ua ba al pr ps L M u) (e : Ev [a] H H') : Scn H' r a wd la ma pa ua ba al pr ps L M u :=
  ⟨S.dr.ev e, S.wd.ev e (by have := S.wd.ne1; simpa using this), Strs.ev S.la e, Strs.ev S.ma e⟩
def spPart : Sp := fun vs H Q _ => ∃ (r a wd la ma pa ua ba : Addr) (al pr : Str) (ps L M : List Str) (u : Nat), vs = [.ref r, .ref a, .ref wd, .ref la, .ref ma] ∧ Scn H r a wd la ma pa ua ba al pr ps L M u ∧ Alph al ∧ (L ≠ [] ∨ M ≠ []) ∧
  ∀ (v : V) (t : Tst) (H' : Hp), Ev [a] H H' → Rep true H' v t.enc → t.ok al L M → t.dep = 0 → Q v H'
theorem rep3 {H : Hp} {p : Addr} {w x y : Str} (h : H p = some (.tup [.str w, .str x, .str y])) : Rep true H (.ref p) (.n [.s w, .s x, .s y]) :=
  Rep.seqIff.mpr ⟨p, _, rfl, .inl h, .cons (Rep.strIff.mpr rfl) (.cons (Rep.strIff.mpr rfl) (.cons (Rep.strIff.mpr rfl) .nil))⟩
theorem rep2 {H : Hp} {p : Addr} {w x : Str} (h : H p = some (.tup [.str w, .str x])) : Rep true H (.ref p) (.n [.s w, .s x]) :=
  Rep.seqIff.mpr ⟨p, _, rfl, .inl h, .cons (Rep.strIff.mpr rfl) (.cons (Rep.strIff.mpr rfl) .nil)⟩
theorem ok_part (F : Fun K "_law_part" "_law_part" s__law_part f fd) (T : Bt mg) (C__law_draw : Cl P w K mg base "_law_draw" 1 ["row", "at", "size"] spDraw) (C__law_letters_of : Cl P w K mg base "_law_letters_of" 2 ["row", "at", "alphabet"] spLetters) : FnOk P w K mg base CX0 3 f fd ["row", "at", "world", "loops", "marks"] spPart := by
  refine F.ok sc__law_part (fun vs H Q E h => ?_) (fun cdv A outer s H vs Q E hr h => ?_)
  · obtain ⟨r, a, wd, la, ma, pa, ua, ba, al, pr, ps, L, M, u, rfl, _⟩ := h
    rfl
  obtain ⟨r, a, wd, la, ma, pa, ua, ba, al, pr, ps, L, M, u, rfl, S, hA, hne, q⟩ := h
  refine ⟨_, (pss_cons (ps_set (i := 5) sc__law_part.nd rfl (by first | exact Or.inl rfl | exact Or.inr rfl) (pe_call C__law_draw.ok (hr.mono (by omega)) (by rfl) C__law_draw.mg C__law_draw.kp C__law_draw.b .nil pass0 (pa_cons (pv 0) (pa_cons (pv 1) (pa_cons pe_int pa_nil)))))
        (pss_cons (ps_if (PW.pt (pw_and (pt_cmpR op_gt (pe_callB call_len_seq (by rfl) T.b_len PySem.boot_len (pa_cons (pv 4) pa_nil)) pe_int (nomark _)) (pw_and1 (PW.pt (pw_or (pt_cmpR op_lt (pv 5) pe_int (nomark _)) (pw_or1 (pt_cmpR op_eq (pe_callB call_len_seq (by rfl) T.b_len PySem.boot_len (pa_cons (pv 3) pa_nil)) pe_int (nomark _)))))))) (pss_one (ps_ret (pe_tup (pa_cons pe_str (pa_cons (pe_ix (r := rIxL K) ix_list (pv 4) (pe_op op_mod (pe_call C__law_draw.ok (hr.mono (by omega)) (by rfl) C__law_draw.mg C__law_draw.kp C__law_draw.b .nil pass0 (pa_cons (pv 0) (pa_cons (pv 1) (pa_cons pe_int pa_nil)))) (pe_callB call_len_seq (by rfl) T.b_len PySem.boot_len (pa_cons (pv 4) pa_nil))) (fun _ _ => rfl)) pa_nil))))) pss_nil)
        (pss_cons (ps_set (i := 6) sc__law_part.nd rfl (by first | exact Or.inl rfl | exact Or.inr rfl) (pe_ix (r := rIxL K) ix_list (pv 3) (pe_op op_mod (pe_call C__law_draw.ok (hr.mono (by omega)) (by rfl) C__law_draw.mg C__law_draw.kp C__law_draw.b .nil pass0 (pa_cons (pv 0) (pa_cons (pv 1) (pa_cons pe_int pa_nil)))) (pe_callB call_len_seq (by rfl) T.b_len PySem.boot_len (pa_cons (pv 3) pa_nil))) (fun _ _ => rfl)))
        (pss_cons (ps_if (PW.pt (pw_or (pt_cmpR op_lt (pv 5) pe_int (nomark _)) (pw_or1 (PW.pt (pw_and (pt_cmpR op_lt (pv 5) pe_int (nomark _)) (pw_and1 (pt_cmpR op_gt (pe_callB call_len_seq (by rfl) T.b_len PySem.boot_len (pa_cons (pv 3) pa_nil)) pe_int (nomark _)))))))) (pss_one (ps_ret (pe_tup (pa_cons (pe_ix (r := rIxL K) ix_list (pe_lst (pa_cons pe_str (pa_cons pe_str (pa_cons pe_str pa_nil)))) (pe_call C__law_draw.ok (hr.mono (by omega)) (by rfl) C__law_draw.mg C__law_draw.kp C__law_draw.b .nil pass0 (pa_cons (pv 0) (pa_cons (pv 1) (pa_cons pe_int pa_nil)))) (fun _ _ => rfl)) (pa_cons (pv 6) (pa_cons (pe_ix (r := rIxL K) ix_list (pv 3) (pe_op op_mod (pe_call C__law_draw.ok (hr.mono (by omega)) (by rfl) C__law_draw.mg C__law_draw.kp C__law_draw.b .nil pass0 (pa_cons (pv 0) (pa_cons (pv 1) (pa_cons pe_int pa_nil)))) (pe_callB call_len_seq (by rfl) T.b_len PySem.boot_len (pa_cons (pv 3) pa_nil))) (fun _ _ => rfl)) pa_nil)))))) pss_nil)
        (pss_one (ps_ret (pe_tup (pa_cons pe_str (pa_cons (pv 6) (pa_cons (pe_call C__law_letters_of.ok (hr.mono (by omega)) (by rfl) C__law_letters_of.mg C__law_letters_of.kp C__law_letters_of.b .nil pass0 (pa_cons (pv 0) (pa_cons (pv 1) (pa_cons (pe_ix (r := rIxL K) ix_list (pv 2) pe_int (fun _ _ => rfl)) pa_nil)))) pa_nil)))))))))), ?_⟩
  walk_at "rd"
  refine ⟨r, a, 12, rfl, S.dr, by omega, fun kd H1 k0 k1 e1 => ?_⟩
  have S1 := S.ev e1
  have mkM : ∀ H1, Scn H1 r a wd la ma pa ua ba al pr ps L M u → Ev [a] H H1 → M ≠ [] → spDraw [V.ref r, V.ref a, V.int 12] H1 (fun x H1 => ∃ x_2, (SqL K H1 ma x_2 ∨ SqT K H1 ma x_2) ∧ ∃ i, x = V.int i ∧ 0 < (x_2.length : Int) ∧ ∃ x, SqL K H1 ma x ∧ ∃ x_3, atI x (i % (x_2.length : Int)) = some x_3 ∧ 2 ≤ sizeLine ∧
      ∀ p, H1 p = none → Q (V.ref p) (upd H1 p (HO.tup [V.str (Str.ofString "mark"), x_3]))) E0 := by
    intro H1 S1 e1 hm
    refine ⟨r, a, 12, rfl, S1.dr, by omega, fun v H2 v0 v1 e2 => ?_⟩
    have S2 := S1.ev e2
    obtain ⟨m, hmm, hat⟩ := pick_mod M hm v
    refine ⟨_, .inl (SqL.of S2.ma), v, rfl, by rw [List.length_map]; have := List.length_pos_iff.mpr hm; omega, _, SqL.of S2.ma, _, hat, by decide, fun p hp => ?_⟩
    exact q _ (.mk m) _ ((e1.trans e2).trans (Ev.new hp _)) (rep2 upd_same) hmm rfl
  have mkB : ∀ H1 (one : Str), Scn H1 r a wd la ma pa ua ba al pr ps L M u → Ev [a] H H1 → one ∈ L → 3 ≤ sizeLine ∧ ∀ p, H1 p = none → spDraw [V.ref r, V.ref a, V.int 3] (upd H1 p (HO.lst [V.str (Str.ofString "before"), V.str (Str.ofString "before"), V.str (Str.ofString "same")]))
      (fun y H2 => ∃ x x_7, y = V.int x_7 ∧ SqL K H2 p x ∧ ∃ x_8, atI x x_7 = some x_8 ∧ spDraw [V.ref r, V.ref a, V.int 12] H2 (fun x H1 => ∃ x_9, (SqL K H1 la x_9 ∨ SqT K H1 la x_9) ∧ ∃ i, x = V.int i ∧ 0 < (x_9.length : Int) ∧ ∃ x_10, SqL K H1 la x_10 ∧ ∃ x_11, atI x_10 (i % (x_9.length : Int)) = some x_11 ∧ 3 ≤ sizeLine ∧
        ∀ p, H1 p = none → Q (V.ref p) (upd H1 p (HO.tup [x_8, V.str one, x_11]))) E0) E0 := by
    intro H1 one S1 e1 ho
    have hL : L ≠ [] := fun e => by rw [e] at ho; cases ho
    refine ⟨by decide, fun p hp => ?_⟩
    have e2 : Ev [a] H1 (upd H1 p (.lst ([Str.ofString "before", Str.ofString "before", Str.ofString "same"].map V.str))) := Ev.new hp _
    have S2 := S1.ev e2
    refine ⟨r, a, 3, rfl, S2.dr, by omega, fun v H3 v0 v1 e3 => ?_⟩
    have S3 := S2.ev e3
    have hp3 := Strs.ev (ys := [Str.ofString "before", Str.ofString "before", Str.ofString "same"]) upd_same e3
    obtain ⟨w0, hw0, hat⟩ := pick_str [Str.ofString "before", Str.ofString "before", Str.ofString "same"] v0 v1
    refine ⟨_, v, rfl, SqL.of hp3, _, hat, r, a, 12, rfl, S3.dr, by omega, fun v2 H4 v20 v21 e4 => ?_⟩
    have S4 := S3.ev e4
    obtain ⟨m, hmm, hat2⟩ := pick_mod L hL v2
    refine ⟨_, .inl (SqL.of S4.la), v2, rfl, by rw [List.length_map]; have := List.length_pos_iff.mpr hL; omega, _, SqL.of S4.la, _, hat2, by decide, fun p2 hp2 => ?_⟩
    refine q _ (.p3 w0 one m) _ ((e1.trans e2).trans ((e3.trans e4).trans (Ev.new hp2 _))) (rep3 upd_same) (.inr ⟨?_, ho, hmm⟩) rfl
    rcases List.mem_cons.mp hw0 with h | h
    · exact .inl h
    · rcases List.mem_cons.mp h with h | h
      · exact .inl h
      · exact .inr (List.mem_singleton.mp h)
  have mkI : ∀ H1 (one : Str), Scn H1 r a wd la ma pa ua ba al pr ps L M u → Ev [a] H H1 → one ∈ L → ∃ x, SqL K H1 wd x ∧ ∃ x_7, atI x 0 = some x_7 ∧ spLetters [V.ref r, V.ref a, x_7] H1 (fun x H1 => 3 ≤ sizeLine ∧ ∀ p, H1 p = none → Q (V.ref p) (upd H1 p (HO.tup [V.str (Str.ofString "in"), V.str one, x]))) E0 := by
    intro H1 one S1 e1 ho
    refine ⟨_, SqL.of S1.wd.hwd, _, rfl, r, a, al, rfl, S1.dr, hA, fun z H2 e2 hz => ⟨by decide, fun p hp => ?_⟩⟩
    exact q _ (.p3 (Str.ofString "in") one z) _ ((e1.trans e2).trans (Ev.new hp _)) (rep3 upd_same) (.inl ⟨rfl, ho, hz⟩) rfl
  have rest : ∀ H1 (x : Int), Scn H1 r a wd la ma pa ua ba al pr ps L M u → Ev [a] H H1 → L ≠ [] → spDraw [V.ref r, V.ref a, V.int 12] H1
      (fun x_3 H1 => ∃ x_4, (SqL K H1 la x_4 ∨ SqT K H1 la x_4) ∧ ∃ i, x_3 = V.int i ∧ 0 < (x_4.length : Int) ∧ ∃ x_5, SqL K H1 la x_5 ∧ ∃ x_6, atI x_5 (i % (x_4.length : Int)) = some x_6 ∧ ∃ i, V.int x = V.int i ∧
        if decide (i < 5) = true then
          3 ≤ sizeLine ∧ ∀ p, H1 p = none → spDraw [V.ref r, V.ref a, V.int 3] (upd H1 p (HO.lst [V.str (Str.ofString "before"), V.str (Str.ofString "before"), V.str (Str.ofString "same")]))
            (fun y H2 => ∃ x x_7, y = V.int x_7 ∧ SqL K H2 p x ∧ ∃ x_8, atI x x_7 = some x_8 ∧ spDraw [V.ref r, V.ref a, V.int 12] H2 (fun x H1 => ∃ x_9, (SqL K H1 la x_9 ∨ SqT K H1 la x_9) ∧ ∃ i, x = V.int i ∧ 0 < (x_9.length : Int) ∧ ∃ x_10, SqL K H1 la x_10 ∧ ∃ x_11, atI x_10 (i % (x_9.length : Int)) = some x_11 ∧ 3 ≤ sizeLine ∧
              ∀ p, H1 p = none → Q (V.ref p) (upd H1 p (HO.tup [x_8, x_6, x_11]))) E0) E0
        else ∃ i, V.int x = V.int i ∧ if decide (i < 9) = true then
            ∃ x, (SqL K H1 la x ∨ SqT K H1 la x) ∧ if decide (1 < (x.length : Int)) = true then
              3 ≤ sizeLine ∧ ∀ p, H1 p = none → spDraw [V.ref r, V.ref a, V.int 3] (upd H1 p (HO.lst [V.str (Str.ofString "before"), V.str (Str.ofString "before"), V.str (Str.ofString "same")]))
                (fun y H2 => ∃ x x_7, y = V.int x_7 ∧ SqL K H2 p x ∧ ∃ x_8, atI x x_7 = some x_8 ∧ spDraw [V.ref r, V.ref a, V.int 12] H2 (fun x H1 => ∃ x_9, (SqL K H1 la x_9 ∨ SqT K H1 la x_9) ∧ ∃ i, x = V.int i ∧ 0 < (x_9.length : Int) ∧ ∃ x_10, SqL K H1 la x_10 ∧ ∃ x_11, atI x_10 (i % (x_9.length : Int)) = some x_11 ∧ 3 ≤ sizeLine ∧
                  ∀ p, H1 p = none → Q (V.ref p) (upd H1 p (HO.tup [x_8, x_6, x_11]))) E0) E0
            else ∃ x, SqL K H1 wd x ∧ ∃ x_7, atI x 0 = some x_7 ∧ spLetters [V.ref r, V.ref a, x_7] H1 (fun x H1 => 3 ≤ sizeLine ∧ ∀ p, H1 p = none → Q (V.ref p) (upd H1 p (HO.tup [V.str (Str.ofString "in"), x_6, x]))) E0
          else ∃ x, SqL K H1 wd x ∧ ∃ x_7, atI x 0 = some x_7 ∧ spLetters [V.ref r, V.ref a, x_7] H1 (fun x H1 => 3 ≤ sizeLine ∧ ∀ p, H1 p = none → Q (V.ref p) (upd H1 p (HO.tup [V.str (Str.ofString "in"), x_6, x]))) E0) E0 := by
    intro H1 x S1 e1 hL
    refine ⟨r, a, 12, rfl, S1.dr, by omega, fun v H2 v0 v1 e2 => ?_⟩
    have S2 := S1.ev e2
    have e3 := e1.trans e2
    obtain ⟨m, hmm, hat⟩ := pick_mod L hL v
    refine ⟨_, .inl (SqL.of S2.la), v, rfl, by rw [List.length_map]; have := List.length_pos_iff.mpr hL; omega, _, SqL.of S2.la, _, hat, x, rfl, ite2 (fun c => mkB H2 m S2 e3 hmm) (fun c => ⟨x, rfl, ite2 (fun c => ⟨_, .inl (SqL.of S2.la), ite2 (fun c => mkB H2 m S2 e3 hmm) (fun c => mkI H2 m S2 e3 hmm)⟩) (fun c => mkI H2 m S2 e3 hmm)⟩)⟩
  refine ⟨_, .inl (SqL.of S1.ma), ?_⟩
  by_cases hm : M = []
  · rw [if_neg (by rw [hm]; simp)]
    exact rest H1 kd S1 e1 (by rcases hne with h | h; exact h; exact absurd hm h)
  · rw [if_pos (by rw [List.length_map]; have := List.length_pos_iff.mpr hm; simp; omega)]
    refine ⟨kd, rfl, ite2 (fun c => mkM H1 S1 e1 hm) (fun c => ⟨_, .inl (SqL.of S1.la), rfl, ?_⟩)⟩
    by_cases hL : L = []
    · rw [if_pos (by rw [hL]; simp)]
      exact mkM H1 S1 e1 hm
    · rw [if_neg (by rw [List.length_map]; have := List.length_pos_iff.mpr hL; simp; omega)]
      exact rest H1 kd S1 e1 hL
end
end TW
/-! E9 -/
set_option Elab.async false
set_option linter.all false
set_option maxRecDepth 100000
set_option maxHeartbeats 4000000
namespace TW
open PySem L2 TL
local macro_rules | `(tactic| walk_at "rd") => `(tactic| simp only [tSeq, tAsg, tOp, tUn, tVar, tCB, tCons, tNil, tRet, tDrop, gName, gSub, gTup, gCons, gNil, rI, rI0, rU, rIxL, rIxT, rIxS, rSetL, tC, L2.start, cxOf, tIfS, tIf, tTest, tB, tAnd, tOr, tNot, tAndV, tOrV, tNotV, tChain, tTup, tLst, tCall, tNext, tNever,
  rEq, rNe, tBM, tBM0, rCat, rRep, rIn, tSl, rSlL, rSlT, rSlS, rAll, rAny, rSortedS, rAppend, rPop, rExtend, tyV, tFld, tM1, tFmt, tJs, tRev, tKGet, rRvL, rRvT, rRvS, rExtendT, rLstS, rRepS, tNoPart, tPart, tYes, StX.tStar, wipe, rIx,
  List.map, List.length, List.replicate, List.append, List.nil_append, List.cons_append, List.append_nil, List.set, Nat.zero_add, Nat.add_zero, Nat.reduceAdd, Nat.reduceSub, List.getElem?_cons_zero, List.getElem?_cons_succ, List.length_cons, List.length_nil, List.set_cons_zero, List.set_cons_succ, List.getElem?_nil, Option.some.injEq, V.ref.injEq, V.int.injEq, V.str.injEq, V.bl.injEq, List.cons.injEq, and_true, true_and, exists_eq_left, exists_eq_left', exists_eq', exists_eq, exists_and_left, exists_const, reduceCtorEq, false_or, or_false, true_or, or_true, false_and, and_false, and_assoc, if_true, if_false, Bool.false_eq_true, Bool.true_eq_false])
local macro_rules | `(tactic| walk_at "rdd") => `(tactic| simp only [tSeq, tAsg, tOp, tUn, tVar, tCB, tCons, tNil, tRet, tDrop, gName, gSub, gTup, gCons, gNil, rI, rI0, rU, rIxL, rIxT, rIxS, rSetL, tC, L2.start, cxOf, tIfS, tIf, tTest, tB, tAnd, tOr, tNot, tAndV, tOrV, tNotV, tChain, tTup, tLst, tCall, tNext, tNever,
  rEq, rNe, tBM, tBM0, rCat, rRep, rIn, tSl, rSlL, rSlT, rSlS, rAll, rAny, rSortedS, rAppend, rPop, rExtend, tyV, tFld, tM1, tFmt, tJs, tRev, tKGet, rRvL, rRvT, rRvS, rExtendT, rLstS, rRepS, tNoPart, tPart, tYes, StX.tStar, wipe, rIx, tFor, tWhile, tLc, iList, iTup, iSeq, iStr, iRng1, iRng2, iEnumS, iZipS,
  List.map, List.length, List.replicate, List.append, List.nil_append, List.cons_append, List.append_nil, List.set, Nat.zero_add, Nat.add_zero, Nat.reduceAdd, Nat.reduceSub, List.getElem?_cons_zero, List.getElem?_cons_succ, List.length_cons, List.length_nil, List.set_cons_zero, List.set_cons_succ, List.getElem?_nil, Option.some.injEq, V.ref.injEq, V.int.injEq, V.str.injEq, V.bl.injEq, List.cons.injEq, and_true, true_and, exists_eq_left, exists_eq_left', exists_eq', exists_eq, exists_and_left, exists_const, reduceCtorEq, false_or, or_false, true_or, or_true, false_and, and_false, and_assoc, if_true, if_false, Bool.false_eq_true, Bool.true_eq_false])
section
variable {P : Program} {w : World} {K : PySem.W.Frag} {mg : Str → Option Value} {base : Heap} {f : Addr} {fd : FuncData}
/-- a promise that nothing can ask is kept at any level -/
theorem FnOk.none {k : Nat} {ps : List Str} {sp : Sp} (no : ∀ vs H Q E, ¬ sp vs H Q E) : FnOk P w K mg base CX0 k f fd ps sp :=
  ⟨fun vs H Q E h => absurd h (no vs H Q E), fun A outer s H args us vs Q E _ _ _ _ h => absurd h (no vs H Q E)⟩
def spDeep (m : Nat) : Sp := fun vs H Q _ => ∃ (r a wd la ma pa ua ba : Addr) (al pr : Str) (ps L M : List Str) (u : Nat) (dp : Int), vs = [.ref r, .ref a, .ref wd, .ref la, .ref ma, .int dp] ∧ Scn H r a wd la ma pa ua ba al pr ps L M u ∧ Alph al ∧ (L ≠ [] ∨ M ≠ []) ∧ 0 ≤ dp ∧ dp < (m : Int) ∧
  ∀ (v : V) (t : Tst) (H' : Hp), Ev [a] H H' → Rep true H' v t.enc → t.ok al L M → (t.dep : Int) ≤ dp → Q v H'
theorem ok_deep {m : Nat} (F : Fun K "_law_deep_test" "_law_deep_test" s__law_deep_test f fd) (T : Bt mg) (C__law_draw : Cl P w K mg base "_law_draw" 1 ["row", "at", "size"] spDraw) (C__law_part : Cl P w K mg base "_law_part" 3 ["row", "at", "world", "loops", "marks"] spPart)
    (C__law_deep_test : Cl P w K mg base "_law_deep_test" (m + 3) ["row", "at", "world", "loops", "marks", "deep"] (spDeep m)) : FnOk P w K mg base CX0 (m + 4) f fd ["row", "at", "world", "loops", "marks", "deep"] (spDeep (m + 1)) := by
  refine F.ok sc__law_deep_test (fun vs H Q E h => ?_) (fun cdv A outer s H vs Q E hr h => ?_)
  · obtain ⟨r, a, wd, la, ma, pa, ua, ba, al, pr, ps, L, M, u, dp, rfl, _⟩ := h
    rfl
  obtain ⟨r, a, wd, la, ma, pa, ua, ba, al, pr, ps, L, M, u, dp, rfl, S, hA, hne, d0, d1, q⟩ := h
  refine ⟨_, (pss_cons (ps_set (i := 6) sc__law_deep_test.nd rfl (by first | exact Or.inl rfl | exact Or.inr rfl) (pe_call C__law_draw.ok (hr.mono (by omega)) (by rfl) C__law_draw.mg C__law_draw.kp C__law_draw.b .nil pass0 (pa_cons (pv 0) (pa_cons (pv 1) (pa_cons pe_int pa_nil)))))
        (pss_cons (ps_if (PW.pt (pw_or (pt_cmpR op_eq (pv 5) pe_int (nomark _)) (pw_or1 (pt_cmpR op_gt (pv 6) pe_int (nomark _))))) (pss_one (ps_ret (pe_call C__law_part.ok (hr.mono (by omega)) (by rfl) C__law_part.mg C__law_part.kp C__law_part.b .nil pass0 (pa_cons (pv 0) (pa_cons (pv 1) (pa_cons (pv 2) (pa_cons (pv 3) (pa_cons (pv 4) pa_nil)))))))) pss_nil)
        (pss_cons (ps_set (i := 7) sc__law_deep_test.nd rfl (by first | exact Or.inl rfl | exact Or.inr rfl) (pe_call C__law_deep_test.ok (hr.mono (by omega)) (by rfl) C__law_deep_test.mg C__law_deep_test.kp C__law_deep_test.b .nil pass0 (pa_cons (pv 0) (pa_cons (pv 1) (pa_cons (pv 2) (pa_cons (pv 3) (pa_cons (pv 4) (pa_cons (pe_op op_sub (pv 5) pe_int) pa_nil))))))))
        (pss_cons (ps_if (pt_cmpR op_lt (pv 6) pe_int (nomark _)) (pss_one (ps_ret (pe_tup (pa_cons pe_str (pa_cons (pv 7) pa_nil))))) pss_nil)
        (pss_one (ps_ret (pe_tup (pa_cons (pe_ix (r := rIxL K) ix_list (pe_lst (pa_cons pe_str (pa_cons pe_str (pa_cons pe_str pa_nil)))) (pe_op op_sub (pv 6) pe_int) (fun _ _ => rfl)) (pa_cons (pv 7) (pa_cons (pe_call C__law_deep_test.ok (hr.mono (by omega)) (by rfl) C__law_deep_test.mg C__law_deep_test.kp C__law_deep_test.b .nil pass0 (pa_cons (pv 0) (pa_cons (pv 1) (pa_cons (pv 2) (pa_cons (pv 3) (pa_cons (pv 4) (pa_cons (pe_op op_sub (pv 5) pe_int) pa_nil))))))) pa_nil)))))))))), ?_⟩
  walk_at "rd"
  refine ⟨r, a, 8, rfl, S.dr, by omega, fun kd H1 k0 k1 e1 => ?_⟩
  have S1 := S.ev e1
  have part : spPart [V.ref r, V.ref a, V.ref wd, V.ref la, V.ref ma] H1 Q E0 :=
    ⟨r, a, wd, la, ma, pa, ua, ba, al, pr, ps, L, M, u, rfl, S1, hA, hne, fun v t H' e2 h1 h2 h3 => q v t H' (e1.trans e2) h1 h2 (by rw [h3]; exact d0)⟩
  refine ⟨rfl, ite2 (fun _ => part) (fun c0 => ⟨kd, rfl, ite2 (fun _ => part) (fun c4 => ?_)⟩)⟩
  have hd0 : dp ≠ 0 := by simpa using c0
  have hk4 : kd ≤ 4 := by
    have : ¬ 4 < kd := by simpa using c4
    omega
  refine ⟨r, a, wd, la, ma, pa, ua, ba, al, pr, ps, L, M, u, dp - 1, rfl, S1, hA, hne, by omega, by omega, fun v1 t1 H2 e2 r1 o1 dd1 => ⟨kd, rfl, ite2 (fun c2 => ⟨by decide, fun p hp => ?_⟩) (fun c2 => ⟨by decide, fun p hp => ⟨kd, rfl, _, SqL.of upd_same, ?_⟩⟩)⟩⟩
  · have e3 := (e1.trans e2).trans (Ev.new hp (.tup [.str (Str.ofString "not"), v1]))
    refine q _ (.no t1) _ e3 ?_ o1 (by show ((t1.dep + 1 : Nat) : Int) ≤ dp; omega)
    exact Rep.seqIff.mpr ⟨p, _, rfl, .inl upd_same, .cons (Rep.strIff.mpr rfl) (.one (r1.same (same_new hp _)))⟩
  · have hk2 : 2 ≤ kd := by
      have : ¬ kd < 2 := by simpa using c2
      omega
    have e3 : Ev [a] H2 (upd H2 p (.lst ([Str.ofString "and", Str.ofString "or", Str.ofString "and"].map V.str))) := Ev.new hp _
    have S3 := (S1.ev e2).ev e3
    obtain ⟨w0, hw0, hat⟩ := pick_str [Str.ofString "and", Str.ofString "or", Str.ofString "and"] (v := kd - 2) (by omega) (by show kd - 2 < 3; omega)
    refine ⟨_, hat, r, a, wd, la, ma, pa, ua, ba, al, pr, ps, L, M, u, dp - 1, rfl, S3, hA, hne, by omega, by omega, fun v2 t2 H4 e4 r2 o2 dd2 => ⟨by decide, fun p2 hp2 => ?_⟩⟩
    have e5 := ((e1.trans e2).trans (e3.trans e4)).trans (Ev.new hp2 (.tup [.str w0, v1, v2]))
    refine q _ (.bi w0 t1 t2) _ e5 ?_ ⟨?_, o1, o2⟩ (by show ((max t1.dep t2.dep + 1 : Nat) : Int) ≤ dp; omega)
    · refine Rep.seqIff.mpr ⟨p2, _, rfl, .inl upd_same, .cons (Rep.strIff.mpr rfl) (.cons (((r1.ev e3).ev e4).same (same_new hp2 _)) (.one (r2.same (same_new hp2 _))))⟩
    · rcases List.mem_cons.mp hw0 with h | h
      · exact .inl h
      · rcases List.mem_cons.mp h with h | h
        · exact .inr h
        · exact .inl (List.mem_singleton.mp h)
theorem all_deep (F : Fun K "_law_deep_test" "_law_deep_test" s__law_deep_test f fd) (T : Bt mg) (C__law_draw : Cl P w K mg base "_law_draw" 1 ["row", "at", "size"] spDraw) (C__law_part : Cl P w K mg base "_law_part" 3 ["row", "at", "world", "loops", "marks"] spPart)
    (b : Binds K fd ["row", "at", "world", "loops", "marks", "deep"] []) (mgf : mg "_law_deep_test" = some (.ref f)) : ∀ m : Nat, FnOk P w K mg base CX0 (m + 3) f fd ["row", "at", "world", "loops", "marks", "deep"] (spDeep m)
  | 0 => FnOk.none fun vs H Q E h => by
    obtain ⟨r, a, wd, la, ma, pa, ua, ba, al, pr, ps, L, M, u, dp, rfl, S, hA, hne, d0, d1, q⟩ := h
    omega
  | m + 1 => ok_deep F T C__law_draw C__law_part ⟨f, fd, all_deep F T C__law_draw C__law_part b mgf m, b, F.kp, mgf⟩
def spLeaf : Sp := fun vs H Q _ => ∃ (r a wd la ma pa ua ba : Addr) (al pr : Str) (ps L M : List Str) (u : Nat), vs = [.ref r, .ref a, .ref wd, .ref la, .ref ma] ∧ Scn H r a wd la ma pa ua ba al pr ps L M u ∧ Alph al ∧ Alph pr ∧
  ∀ (v : V) (w x : Str) (H' : Hp), Ev [a] H H' → Rep true H' v (.n [.s w, .s x]) → leafOk al pr L M w x → Q v H'
theorem ok_leaf (F : Fun K "_law_leaf" "_law_leaf" s__law_leaf f fd) (T : Bt mg) (C__law_draw : Cl P w K mg base "_law_draw" 1 ["row", "at", "size"] spDraw) (C__law_text : Cl P w K mg base "_law_text" 2 ["alphabet", "row", "at", "size"] TW.spText) : FnOk P w K mg base CX0 3 f fd ["row", "at", "world", "loops", "marks"] spLeaf := by
  refine F.ok sc__law_leaf (fun vs H Q E h => ?_) (fun cdv A outer s H vs Q E hr h => ?_)
  · obtain ⟨r, a, wd, la, ma, pa, ua, ba, al, pr, ps, L, M, u, rfl, _⟩ := h
    rfl
  obtain ⟨r, a, wd, la, ma, pa, ua, ba, al, pr, ps, L, M, u, rfl, S, hA, hB, q⟩ := h
  refine ⟨_, (pss_cons (ps_set (i := 5) sc__law_leaf.nd rfl (by first | exact Or.inl rfl | exact Or.inr rfl) (pe_call C__law_draw.ok (hr.mono (by omega)) (by rfl) C__law_draw.mg C__law_draw.kp C__law_draw.b .nil pass0 (pa_cons (pv 0) (pa_cons (pv 1) (pa_cons pe_int pa_nil)))))
        (pss_cons (ps_if (PW.pt (pw_and (pt_cmpR op_gt (pe_callB call_len_seq (by rfl) T.b_len PySem.boot_len (pa_cons (pv 4) pa_nil)) pe_int (nomark _)) (pw_and1 (pt_cmpR op_lt (pv 5) pe_int (nomark _))))) (pss_one (ps_ret (pe_tup (pa_cons (pe_ix (r := rIxL K) ix_list (pe_lst (pa_cons pe_str (pa_cons pe_str pa_nil))) (pv 5) (fun _ _ => rfl)) (pa_cons (pe_ix (r := rIxL K) ix_list (pv 4) (pe_op op_mod (pe_call C__law_draw.ok (hr.mono (by omega)) (by rfl) C__law_draw.mg C__law_draw.kp C__law_draw.b .nil pass0 (pa_cons (pv 0) (pa_cons (pv 1) (pa_cons pe_int pa_nil)))) (pe_callB call_len_seq (by rfl) T.b_len PySem.boot_len (pa_cons (pv 4) pa_nil))) (fun _ _ => rfl)) pa_nil))))) pss_nil)
        (pss_cons (ps_set (i := 6) sc__law_leaf.nd rfl (by first | exact Or.inl rfl | exact Or.inr rfl) (pe_cmpR op_eq (pe_callB call_len_seq (by rfl) T.b_len PySem.boot_len (pa_cons (pe_lc (own := [("letter", 7)]) (g := gName 7) (by rfl) sc__law_leaf.nd (pi_str (pe_ix (r := rIxL K) ix_list (pv 2) pe_int (fun _ _ => rfl))) (blkOk_by (N := ["row", "at", "world", "loops", "marks", "kind", "fits", "letter", "size"]) (sc := defScope s__law_leaf) (by decide +kernel)) (fun _ _ _ _ _ => pg_name (i := 7) sc__law_leaf.nd rfl (by first | exact Or.inl rfl | exact Or.inr rfl)) (fun _ _ _ _ _ => pts_one (pt_cmpR op_notIn_sign (pv 7) (pe_ix (r := rIxL K) ix_list (pv 2) pe_int (fun _ _ => rfl)) (by rfl))) (fun _ _ _ _ _ => (pv 7))) pa_nil)) pe_int (nomark _)))
        (pss_cons (ps_if (PW.pt (pw_and (pt_cmpR op_gt (pe_callB call_len_seq (by rfl) T.b_len PySem.boot_len (pa_cons (pv 3) pa_nil)) pe_int (nomark _)) (pw_and (pt_val (pv 6)) (pw_and1 (pt_cmpR op_lt (pv 5) pe_int (nomark _)))))) (pss_one (ps_ret (pe_tup (pa_cons pe_str (pa_cons (pe_ix (r := rIxL K) ix_list (pv 3) (pe_op op_mod (pe_call C__law_draw.ok (hr.mono (by omega)) (by rfl) C__law_draw.mg C__law_draw.kp C__law_draw.b .nil pass0 (pa_cons (pv 0) (pa_cons (pv 1) (pa_cons pe_int pa_nil)))) (pe_callB call_len_seq (by rfl) T.b_len PySem.boot_len (pa_cons (pv 3) pa_nil))) (fun _ _ => rfl)) pa_nil))))) pss_nil)
        (pss_cons (ps_set (i := 8) sc__law_leaf.nd rfl (by first | exact Or.inl rfl | exact Or.inr rfl) (pe_ix (r := rIxL K) ix_list (pe_lst (pa_cons pe_int (pa_cons pe_int (pa_cons pe_int (pa_cons pe_int (pa_cons pe_int (pa_cons pe_int (pa_cons pe_int (pa_cons pe_int pa_nil))))))))) (pe_call C__law_draw.ok (hr.mono (by omega)) (by rfl) C__law_draw.mg C__law_draw.kp C__law_draw.b .nil pass0 (pa_cons (pv 0) (pa_cons (pv 1) (pa_cons pe_int pa_nil)))) (fun _ _ => rfl)))
        (pss_one (ps_ret (pe_tup (pa_cons pe_str (pa_cons (pe_call C__law_text.ok (hr.mono (by omega)) (by rfl) C__law_text.mg C__law_text.kp C__law_text.b .nil pass0 (pa_cons (pe_ix (r := rIxL K) ix_list (pv 2) pe_int (fun _ _ => rfl)) (pa_cons (pv 0) (pa_cons (pv 1) (pa_cons (pv 8) pa_nil))))) pa_nil)))))))))), ?_⟩
  walk_at "rd"
  refine ⟨r, a, 6, rfl, S.dr, by omega, fun kd H1 k0 k1 e1 => ?_⟩
  have S1 := S.ev e1
  have mkP : ∀ H1, Scn H1 r a wd la ma pa ua ba al pr ps L M u → Ev [a] H H1 → 8 ≤ sizeLine ∧ ∀ p, H1 p = none → spDraw [V.ref r, V.ref a, V.int 8] (upd H1 p (HO.lst [V.int 1, V.int 1, V.int 2, V.int 1, V.int 3, V.int 2, V.int 1, V.int 40]))
      (fun y H2 => ∃ x x_5, y = V.int x_5 ∧ SqL K H2 p x ∧ ∃ x_6, atI x x_5 = some x_6 ∧ ∃ x, SqL K H2 wd x ∧ ∃ x_7, atI x 1 = some x_7 ∧ spText [x_7, V.ref r, V.ref a, x_6] H2 (fun x H1 => 2 ≤ sizeLine ∧ ∀ p, H1 p = none → Q (V.ref p) (upd H1 p (HO.tup [V.str (Str.ofString "print"), x]))) E0) E0 := by
    intro H1 S1 e1
    refine ⟨by decide, fun p hp => ?_⟩
    have e2 : Ev [a] H1 (upd H1 p (.lst ([1, 1, 2, 1, 3, 2, 1, 40].map V.int))) := Ev.new hp _
    have S2 := S1.ev e2
    refine ⟨r, a, 8, rfl, S2.dr, by omega, fun v H3 v0 v1 e3 => ?_⟩
    have S3 := S2.ev e3
    have hp3 := e3.obj (b := p) (o := .lst ([1, 1, 2, 1, 3, 2, 1, 40].map V.int)) upd_same (fun i q => by simp at q)
    obtain ⟨n, hn, hat⟩ := pick_int [1, 1, 2, 1, 3, 2, 1, 40] v0 v1
    have hn40 : 1 ≤ n ∧ n ≤ 40 := by
      have : ∀ x ∈ ([1, 1, 2, 1, 3, 2, 1, 40] : List Int), 1 ≤ x ∧ x ≤ 40 := by decide
      exact this n hn
    refine ⟨_, v, rfl, SqL.of hp3, _, hat, _, SqL.of S3.wd.hwd, .str pr, rfl, pr, r, a, n, rfl, hB.lo, Nat.le_trans hB.hi (by decide), S3.dr, hn40.1, hn40.2, fun z H4 e4 hz hc => ⟨by decide, fun p2 hp2 => ?_⟩⟩
    exact q _ (Str.ofString "print") z _ ((e1.trans e2).trans ((e3.trans e4).trans (Ev.new hp2 _))) (rep2 upd_same) (.inr (.inr ⟨rfl, by omega, by omega, hc⟩))
  have mkC : ∀ H1, Scn H1 r a wd la ma pa ua ba al pr ps L M u → Ev [a] H H1 →
      tLc (iStr (tOp (rIxL K) (tVar 2) (tC (V.int 0)))) (gName 7) (tTest (tOp (fun x y H Q => ∃ c, x = V.str { cps := #[c] } ∧ ∃ x, y = V.str x ∧ Q (V.bl !decide (c ∈ x.cps.toList)) H) (tVar 7) (tOp (rIxL K) (tVar 2) (tC (V.int 1))))) (tVar 7) [7]
        [some (V.ref r), some (V.ref a), some (V.ref wd), some (V.ref la), some (V.ref ma), some (V.int kd), none, none, none] H1 fun x_2 H1 =>
        ∃ p, x_2 = V.ref p ∧ ∃ x_3, (SqL K H1 p x_3 ∨ SqT K H1 p x_3) ∧ scal (V.int (x_3.length : Int)) (V.int 0) = true ∧ ∃ x_4, (SqL K H1 la x_4 ∨ SqT K H1 la x_4) ∧
          if decide (0 < (x_4.length : Int)) = true then
            if decide ((x_3.length : Int) = 0) = true then
              ∃ i, V.int kd = V.int i ∧ if decide (i < 4) = true then
                spDraw [V.ref r, V.ref a, V.int 12] H1 (fun x H1 => ∃ x_5, (SqL K H1 la x_5 ∨ SqT K H1 la x_5) ∧ ∃ i, x = V.int i ∧ 0 < (x_5.length : Int) ∧ ∃ x, SqL K H1 la x ∧ ∃ x_6, atI x (i % (x_5.length : Int)) = some x_6 ∧ 2 ≤ sizeLine ∧ ∀ p, H1 p = none → Q (V.ref p) (upd H1 p (HO.tup [V.str (Str.ofString "copy"), x_6]))) E0
              else 8 ≤ sizeLine ∧ ∀ p, H1 p = none → spDraw [V.ref r, V.ref a, V.int 8] (upd H1 p (HO.lst [V.int 1, V.int 1, V.int 2, V.int 1, V.int 3, V.int 2, V.int 1, V.int 40]))
      (fun y H2 => ∃ x x_5, y = V.int x_5 ∧ SqL K H2 p x ∧ ∃ x_6, atI x x_5 = some x_6 ∧ ∃ x, SqL K H2 wd x ∧ ∃ x_7, atI x 1 = some x_7 ∧ spText [x_7, V.ref r, V.ref a, x_6] H2 (fun x H1 => 2 ≤ sizeLine ∧ ∀ p, H1 p = none → Q (V.ref p) (upd H1 p (HO.tup [V.str (Str.ofString "print"), x]))) E0) E0
            else 8 ≤ sizeLine ∧ ∀ p, H1 p = none → spDraw [V.ref r, V.ref a, V.int 8] (upd H1 p (HO.lst [V.int 1, V.int 1, V.int 2, V.int 1, V.int 3, V.int 2, V.int 1, V.int 40]))
      (fun y H2 => ∃ x x_5, y = V.int x_5 ∧ SqL K H2 p x ∧ ∃ x_6, atI x x_5 = some x_6 ∧ ∃ x, SqL K H2 wd x ∧ ∃ x_7, atI x 1 = some x_7 ∧ spText [x_7, V.ref r, V.ref a, x_6] H2 (fun x H1 => 2 ≤ sizeLine ∧ ∀ p, H1 p = none → Q (V.ref p) (upd H1 p (HO.tup [V.str (Str.ofString "print"), x]))) E0) E0
          else 8 ≤ sizeLine ∧ ∀ p, H1 p = none → spDraw [V.ref r, V.ref a, V.int 8] (upd H1 p (HO.lst [V.int 1, V.int 1, V.int 2, V.int 1, V.int 3, V.int 2, V.int 1, V.int 40]))
      (fun y H2 => ∃ x x_5, y = V.int x_5 ∧ SqL K H2 p x ∧ ∃ x_6, atI x x_5 = some x_6 ∧ ∃ x, SqL K H2 wd x ∧ ∃ x_7, atI x 1 = some x_7 ∧ spText [x_7, V.ref r, V.ref a, x_6] H2 (fun x H1 => 2 ≤ sizeLine ∧ ∀ p, H1 p = none → Q (V.ref p) (upd H1 p (HO.tup [V.str (Str.ofString "print"), x]))) E0) E0 := by
    intro H1 S1 e1
    refine ⟨_, rfl, wd, _, 0, .str al, rfl, rfl, SqL.of S1.wd.hwd, rfl, al, rfl, fun D hD => lc_it walk_str (fun i H' => H' = upd H1 D (.lst ((sgs (((tl al).take i).filter fun c => !decide (c ∈ tl pr))).map V.str))) rfl (fun _ _ _ _ => trivial) ?_ ?_⟩
    · rintro i v H3 H4 hi rfl ⟨rfl, cc, hcc, rfl⟩
      have hcc2 : (tl al)[i]? = some cc := by
        show al.cps.toList[i]? = _
        rw [Array.getElem?_toList]
        exact hcc
      have htk : (tl al).take (i + 1) = (tl al).take i ++ [cc] := take_more hcc2
      have ho6 : (tl al).length ≤ 6 := by rw [← len_tl]; exact hA.hi
      have hl6 : (((tl al).take i).filter fun c => !decide (c ∈ tl pr)).length ≤ 6 := Nat.le_trans (List.length_filter_le _ _) (Nat.le_trans (by rw [List.length_take]; exact Nat.min_le_right _ _) ho6)
      walk_at "rd"
      refine ⟨_, SqL.of ((upd_ne (ne_of_none S1.wd.hwd hD)).trans S1.wd.hwd), .str pr, rfl, cc, rfl, pr, rfl, ite2 (fun c => ⟨_, upd_same, ?_, ?_⟩) (fun c => ?_)⟩
      · rw [List.length_map]
        unfold sgs
        rw [List.length_map]
        exact small1000 (by omega)
      · rw [upd_upd, htk, List.filter_append]
        have : ([cc].filter fun c => !decide (c ∈ tl pr)) = [cc] := by
          simp only [List.filter_cons, List.filter_nil]
          rw [if_pos c]
        rw [this]
        unfold sgs
        rw [List.map_append, List.map_append]
        rfl
      · rw [htk, List.filter_append]
        have : ([cc].filter fun c => !decide (c ∈ tl pr)) = [] := by
          simp only [List.filter_cons, List.filter_nil]
          rw [if_neg c]
        rw [this, List.append_nil]
    · rintro H3 rfl
      have sz : al.cps.size = (tl al).length := (Array.length_toList).symm
      rw [sz, List.take_of_length_le (Nat.le_refl _)]
      have e2 : Ev [a] H1 (upd H1 D (.lst ((sgs ((tl al).filter fun c => !decide (c ∈ tl pr))).map V.str))) := Ev.new hD _
      have S2 := S1.ev e2
      have e3 := e1.trans e2
      refine ⟨D, rfl, _, .inl (SqL.of upd_same), rfl, _, .inl (SqL.of S2.la), ite2 (fun cL => ite2 (fun cF => ⟨kd, rfl, ite2 (fun _ => ?_) (fun _ => mkP _ S2 e3)⟩) (fun _ => mkP _ S2 e3)) (fun _ => mkP _ S2 e3)⟩
      have hL : L ≠ [] := by
        intro e
        rw [e] at cL
        simp at cL
      have fits : ∀ c ∈ tl al, c ∈ tl pr := by
        have h0 : (((sgs ((tl al).filter fun c => !decide (c ∈ tl pr))).map V.str).length : Int) = 0 := by simpa using cF
        have h1 : ((tl al).filter fun c => !decide (c ∈ tl pr)).length = 0 := by
          unfold sgs at h0
          rw [List.length_map, List.length_map] at h0
          omega
        have h2 := List.filter_eq_nil_iff.mp (List.eq_nil_of_length_eq_zero h1)
        intro c hc
        have := h2 c hc
        simpa using this
      refine ⟨r, a, 12, rfl, S2.dr, by omega, fun v H5 v0 v1 e5 => ?_⟩
      have S5 := S2.ev e5
      obtain ⟨m, hmm, hat⟩ := pick_mod L hL v
      refine ⟨_, .inl (SqL.of S5.la), v, rfl, by rw [List.length_map]; have := List.length_pos_iff.mpr hL; omega, _, SqL.of S5.la, _, hat, by decide, fun p hp => ?_⟩
      exact q _ (Str.ofString "copy") m _ ((e3.trans e5).trans (Ev.new hp _)) (rep2 upd_same) (.inr (.inl ⟨rfl, hmm, fits⟩))
  refine ⟨_, .inl (SqL.of S1.ma), ite2 (fun cM => ⟨kd, rfl, ite2 (fun c2 => ⟨by decide, fun p hp => ?_⟩) (fun _ => mkC H1 S1 e1)⟩) (fun _ => mkC H1 S1 e1)⟩
  have hM : M ≠ [] := by
    intro e
    rw [e] at cM
    simp at cM
  have hk2 : kd < 2 := by simpa using c2
  have e2 : Ev [a] H1 (upd H1 p (.lst ([Str.ofString "set", Str.ofString "clear"].map V.str))) := Ev.new hp _
  have S2 := S1.ev e2
  obtain ⟨w0, hw0, hat⟩ := pick_str [Str.ofString "set", Str.ofString "clear"] (v := kd) k0 (by show kd < 2; exact hk2)
  refine ⟨_, kd, rfl, SqL.of upd_same, _, hat, r, a, 12, rfl, S2.dr, by omega, fun v H3 v0 v1 e3 => ?_⟩
  have S3 := S2.ev e3
  obtain ⟨m, hmm, hat2⟩ := pick_mod M hM v
  refine ⟨_, .inl (SqL.of S3.ma), v, rfl, by rw [List.length_map]; have := List.length_pos_iff.mpr hM; omega, _, SqL.of S3.ma, _, hat2, by decide, fun p2 hp2 => ?_⟩
  refine q _ w0 m _ ((e1.trans e2).trans (e3.trans (Ev.new hp2 _))) (rep2 upd_same) (.inl ⟨?_, hmm⟩)
  rcases List.mem_cons.mp hw0 with h | h
  · exact .inl h
  · exact .inr (List.mem_singleton.mp h)
end
end TW
/-! E10 -/
set_option Elab.async false
set_option linter.all false
set_option maxRecDepth 100000
set_option maxHeartbeats 4000000
namespace TW
open PySem L2 TL
local macro_rules | `(tactic| walk_at "rd") => `(tactic| simp only [tSeq, tAsg, tOp, tUn, tVar, tCB, tCons, tNil, tRet, tDrop, gName, gSub, gTup, gCons, gNil, rI, rI0, rU, rIxL, rIxT, rIxS, rSetL, tC, L2.start, cxOf, tIfS, tIf, tTest, tB, tAnd, tOr, tNot, tAndV, tOrV, tNotV, tChain, tTup, tLst, tCall, tNext, tNever,
  rEq, rNe, tBM, tBM0, rCat, rRep, rIn, tSl, rSlL, rSlT, rSlS, rAll, rAny, rSortedS, rAppend, rPop, rExtend, tyV, tFld, tM1, tFmt, tJs, tRev, tKGet, rRvL, rRvT, rRvS, rExtendT, rLstS, rRepS, tNoPart, tPart, tYes, StX.tStar, wipe, rIx,
  List.map, List.length, List.replicate, List.append, List.nil_append, List.cons_append, List.append_nil, List.set, Nat.zero_add, Nat.add_zero, Nat.reduceAdd, Nat.reduceSub, List.getElem?_cons_zero, List.getElem?_cons_succ, List.length_cons, List.length_nil, List.set_cons_zero, List.set_cons_succ, List.getElem?_nil, Option.some.injEq, V.ref.injEq, V.int.injEq, V.str.injEq, V.bl.injEq, List.cons.injEq, and_true, true_and, exists_eq_left, exists_eq_left', exists_eq', exists_eq, exists_and_left, exists_const, reduceCtorEq, false_or, or_false, true_or, or_true, false_and, and_false, and_assoc, if_true, if_false, Bool.false_eq_true, Bool.true_eq_false])
local macro_rules | `(tactic| walk_at "rdd") => `(tactic| simp only [tSeq, tAsg, tOp, tUn, tVar, tCB, tCons, tNil, tRet, tDrop, gName, gSub, gTup, gCons, gNil, rI, rI0, rU, rIxL, rIxT, rIxS, rSetL, tC, L2.start, cxOf, tIfS, tIf, tTest, tB, tAnd, tOr, tNot, tAndV, tOrV, tNotV, tChain, tTup, tLst, tCall, tNext, tNever,
  rEq, rNe, tBM, tBM0, rCat, rRep, rIn, tSl, rSlL, rSlT, rSlS, rAll, rAny, rSortedS, rAppend, rPop, rExtend, tyV, tFld, tM1, tFmt, tJs, tRev, tKGet, rRvL, rRvT, rRvS, rExtendT, rLstS, rRepS, tNoPart, tPart, tYes, StX.tStar, wipe, rIx, tFor, tWhile, tLc, iList, iTup, iSeq, iStr, iRng1, iRng2, iEnumS, iZipS,
  List.map, List.length, List.replicate, List.append, List.nil_append, List.cons_append, List.append_nil, List.set, Nat.zero_add, Nat.add_zero, Nat.reduceAdd, Nat.reduceSub, List.getElem?_cons_zero, List.getElem?_cons_succ, List.length_cons, List.length_nil, List.set_cons_zero, List.set_cons_succ, List.getElem?_nil, Option.some.injEq, V.ref.injEq, V.int.injEq, V.str.injEq, V.bl.injEq, List.cons.injEq, and_true, true_and, exists_eq_left, exists_eq_left', exists_eq', exists_eq, exists_and_left, exists_const, reduceCtorEq, false_or, or_false, true_or, or_true, false_and, and_false, and_assoc, if_true, if_false, Bool.false_eq_true, Bool.true_eq_false])
section
variable {P : Program} {w : World} {K : PySem.W.Frag} {mg : Str → Option Value} {base : Heap} {f g : Addr} {fd gd : FuncData}
theorem Scn.ev' {H H' : Hp} {r a wd la ma pa ua ba : Addr} {al pr : Str} {ps L M : List Str} {u u' : Nat} {l : List Addr} (S : Scn H r a wd la ma pa ua ba al pr ps L M u) (e : Ev l H H') (h : H' ua = some (.lst [.int (u' : Int)])) : Scn H' r a wd la ma pa ua ba al pr ps L M u' :=
  ⟨S.dr.ev e, S.wd.ev' e h, Strs.ev S.la e, Strs.ev S.ma e⟩
/-- what the draws of statements ask besides -/
structure Ask (al pr : Str) (ps L M : List Str) (u : Nat) : Prop where
  al : Alph al
  pr : Alph pr
  ps : PoolOk ps
  uu : u ≤ 12
  ll : L.length ≤ u
  ml : M.length ≤ u
def Part (ps : List Str) (u u' : Nat) (l : List Str) : Prop := u ≤ u' ∧ u' ≤ 12 ∧ l = (ps.drop u).take (u' - u)
theorem Part.nil {ps : List Str} {u : Nat} (h : u ≤ 12) : Part ps u u [] := ⟨Nat.le_refl _, h, by simp⟩
theorem Part.app {ps : List Str} {u u1 u2 : Nat} {l l2 : List Str} (a : Part ps u u1 l) (b : Part ps u1 u2 l2) : Part ps u u2 (l ++ l2) := by
  obtain ⟨a1, a2, rfl⟩ := a
  obtain ⟨b1, b2, rfl⟩ := b
  refine ⟨by omega, b2, ?_⟩
  have e : u2 - u = (u1 - u) + (u2 - u1) := by omega
  rw [e, List.take_add, List.drop_drop]
  congr 2
  congr 1
  omega
theorem Part.one {ps : List Str} {u u2 : Nat} {x : Str} {l : List Str} (hx : ps[u]? = some x) (b : Part ps (u + 1) u2 l) : Part ps u u2 (x :: l) := by
  obtain ⟨b1, b2, rfl⟩ := b
  refine ⟨by omega, b2, ?_⟩
  have hlt : u < ps.length := (List.getElem?_eq_some_iff.mp hx).1
  have e : u2 - u = (u2 - (u + 1)) + 1 := by omega
  rw [List.drop_eq_getElem_cons hlt, e, List.take_succ_cons]
  have : ps[u] = x := by
    have := List.getElem?_eq_getElem hlt
    rw [this] at hx
    exact Option.some.inj hx
  rw [this]
/-- the heap H' with those lists hidden that stood in H -/
def Mx (H H' : Hp) : Hp := fun a => match H' a with
  | some (.lst vs) => if (H a).isNone then some (.lst vs) else none
  | o => o
def Dom (H H1 : Hp) : Prop := ∀ a, H1 a = none → H a = none
/-- tuples and lists of texts and objects stay -/
structure Kp (H H' : Hp) : Prop where
  t : ∀ a vs, H a = some (.tup vs) → H' a = some (.tup vs)
  l : ∀ a vs, (∀ v ∈ vs, itemV v = true) → H a = some (.lst vs) → H' a = some (.lst vs)
theorem Ev.dom {l : List Addr} {H H' : Hp} (e : Ev l H H') : Dom H H' := fun _ q => e.free q
theorem dom_same {H H' : Hp} (e : Same H H') : Dom H H' := fun _ q => e.free q
theorem Dom.trans {H H1 H2 : Hp} (a : Dom H H1) (b : Dom H1 H2) : Dom H H2 := fun x q => a x (b x q)
theorem Dom.refl {H : Hp} : Dom H H := fun _ q => q
theorem Dom.upd {H : Hp} {p : Addr} {o : HO} : Dom H (upd H p o) := fun a q => by
  unfold L2.upd at q
  split at q
  · cases q
  · exact q
theorem Kp.refl {H : Hp} : Kp H H := ⟨fun _ _ e => e, fun _ _ _ e => e⟩
theorem Kp.trans {H H1 H2 : Hp} (a : Kp H H1) (b : Kp H1 H2) : Kp H H2 := ⟨fun x vs e => b.t x vs (a.t x vs e), fun x vs hv e => b.l x vs hv (a.l x vs hv e)⟩
theorem Ev.kp {l : List Addr} {H H' : Hp} (e : Ev l H H') : Kp H H' := ⟨fun a vs q => e.obj q fun i => by simp, fun a vs hv q => e.obj q fun i z => by
  have e2 : vs = [.int i] := by simpa using z
  subst e2
  exact Bool.false_ne_true (hv _ List.mem_cons_self)⟩
theorem kp_same {H H' : Hp} (e : Same H H') : Kp H H' := ⟨fun a vs q => e _ _ q, fun a vs _ q => e _ _ q⟩
theorem mx_tup {H H' : Hp} {a : Addr} {vs : List V} : Mx H H' a = some (.tup vs) ↔ H' a = some (.tup vs) := by
  unfold Mx
  split
  · rename_i z
    rw [z]
    split <;> simp
  · exact Iff.rfl
theorem mx_lst {H H' : Hp} {a : Addr} {vs : List V} : Mx H H' a = some (.lst vs) ↔ H' a = some (.lst vs) ∧ H a = none := by
  unfold Mx
  split
  · rename_i us z
    rw [z]
    split
    · rename_i hn
      constructor
      · intro h
        exact ⟨h, Option.isNone_iff_eq_none.mp hn⟩
      · intro h
        exact h.1
    · rename_i hn
      constructor
      · intro h
        cases h
      · intro h
        exact absurd (Option.isNone_iff_eq_none.mpr h.2) hn
  · rename_i z
    constructor
    · intro h
      exact absurd h (z vs)
    · intro h
      exact absurd h.1 (z vs)
theorem Rep.mx {m : Bool} {H H1 H2 H3 : Hp} {v : V} {d : D} (h : Rep m (Mx H1 H2) v d) (dm : Dom H H1) (k : Kp H2 H3) : Rep m (Mx H H3) v d :=
  Rep.keep (fun a vs e => mx_tup.mpr (k.t a vs (mx_tup.mp e))) (fun _ a vs hv e => mx_lst.mpr ⟨k.l a vs hv (mx_lst.mp e).1, dm a (mx_lst.mp e).2⟩) d v h
theorem RepL.mx {m : Bool} {H H1 H2 H3 : Hp} {vs : List V} {ds : List D} (h : RepL m (Mx H1 H2) vs ds) (dm : Dom H H1) (k : Kp H2 H3) : RepL m (Mx H H3) vs ds :=
  RepL.keep (fun a vs e => mx_tup.mpr (k.t a vs (mx_tup.mp e))) (fun _ a vs hv e => mx_lst.mpr ⟨k.l a vs hv (mx_lst.mp e).1, dm a (mx_lst.mp e).2⟩) ds vs h
theorem Rep.toMx {H H' : Hp} {v : V} {d : D} (h : Rep true H' v d) : Rep false (Mx H H') v d :=
  Rep.weak _ _ (Rep.keep (fun a vs e => mx_tup.mpr e) (fun e => Bool.noConfusion e) d v h)
theorem Rep.ofMx {m : Bool} {H H' : Hp} {v : V} {d : D} (h : Rep m (Mx H H') v d) : Rep m H' v d :=
  Rep.keep (fun a vs e => mx_tup.mp e) (fun _ a vs _ e => (mx_lst.mp e).1) d v h
theorem RepL.ofMx {m : Bool} {H H' : Hp} {vs : List V} {ds : List D} (h : RepL m (Mx H H') vs ds) : RepL m H' vs ds :=
  RepL.keep (fun a vs e => mx_tup.mp e) (fun _ a vs _ e => (mx_lst.mp e).1) ds vs h
/-- a list that stood before may change -/
theorem RepL.mxUpd {m : Bool} {H H' : Hp} {D : Addr} {us : List V} {vs : List V} {ds : List TW.D} (h : RepL m (Mx H H') vs ds) (hD : H D ≠ none) (hl : ∀ xs, H' D ≠ some (.tup xs)) : RepL m (Mx H (upd H' D (.lst us))) vs ds :=
  RepL.keep (fun a xs e => by
    have e2 := mx_tup.mp e
    have hne : a ≠ D := fun z => hl xs (z ▸ e2)
    exact mx_tup.mpr ((upd_ne hne).trans e2)) (fun _ a xs _ e => by
    have e2 := mx_lst.mp e
    have hne : a ≠ D := fun z => hD (z ▸ e2.2)
    exact mx_lst.mpr ⟨(upd_ne hne).trans e2.1, e2.2⟩) ds vs h
theorem cut {t u : TS} {D : Ends} {σ : St} {H : Hp} (I : St → Hp → Prop) (h1 : ∀ N : St → Hp → Prop, (∀ σ H, I σ H → N σ H) → t { D with nx := N } σ H) (h2 : ∀ σ H, I σ H → u D σ H) : tSeq t u D σ H := h1 _ h2
def spNest (m : Nat) : Sp := fun vs H Q _ => ∃ (r a wd la ma pa ua ba : Addr) (al pr : Str) (ps L M : List Str) (u : Nat) (dp tp : Int), vs = [.ref r, .ref a, .ref wd, .ref la, .ref ma, .int dp, .int tp] ∧ Scn H r a wd la ma pa ua ba al pr ps L M u ∧ Ask al pr ps L M u ∧ 0 ≤ dp ∧ dp < (m : Int) ∧
  ∀ (v : Addr) (vs : List V) (b : List Stm) (u' : Nat) (H' : Hp), Ev [a, ua, ba] H H' → H' v = some (.lst vs) → H v = none → RepL false (Mx H H') vs (encL b) → okL al pr L M b → Part ps u u' (namesL b) → (depL b : Int) ≤ dp → wtL b ≤ 3 * Wmax dp.toNat → b.length ≤ 3 → H' ua = some (.lst [.int (u' : Int)]) → Q (.ref v) H'
def spNested (m : Nat) : Sp := fun vs H Q _ => ∃ (r a wd la ma pa ua ba : Addr) (al pr : Str) (ps L M : List Str) (u : Nat) (dp tp : Int), vs = [.ref r, .ref a, .ref wd, .ref la, .ref ma, .int dp, .int tp] ∧ Scn H r a wd la ma pa ua ba al pr ps L M u ∧ Ask al pr ps L M u ∧ 0 ≤ dp ∧ dp < (m : Int) ∧
  ∀ (v : V) (s : Stm) (u' : Nat) (H' : Hp), Ev [a, ua, ba] H H' → Rep false (Mx H H') v s.enc → s.ok al pr L M → Part ps u u' s.names → (s.dep : Int) ≤ dp → s.wt ≤ Wmax dp.toNat → H' ua = some (.lst [.int (u' : Int)]) → Q v H'
theorem ok_nested {m : Nat} (F : Fun K "_law_nested" "_law_nested" s__law_nested f fd) (T : Bt mg) (C__law_draw : Cl P w K mg base "_law_draw" 1 ["row", "at", "size"] spDraw) (C__law_deep_test : Cl P w K mg base "_law_deep_test" 8 ["row", "at", "world", "loops", "marks", "deep"] (spDeep 5))
    (C__law_leaf : Cl P w K mg base "_law_leaf" 3 ["row", "at", "world", "loops", "marks"] spLeaf) (C__law_nest : Cl P w K mg base "_law_nest" (2 * m + 9) ["row", "at", "world", "loops", "marks", "deep", "top"] (spNest m)) :
    FnOk P w K mg base CX0 (2 * m + 10) f fd ["row", "at", "world", "loops", "marks", "deep", "top"] (spNested (m + 1)) := by
  refine F.ok sc__law_nested (fun vs H Q E h => ?_) (fun cdv A outer s H vs Q E hr h => ?_)
  · obtain ⟨r, a, wd, la, ma, pa, ua, ba, al, pr, ps, L, M, u, dp, tp, rfl, _⟩ := h
    rfl
  obtain ⟨r, a, wd, la, ma, pa, ua, ba, al, pr, ps, L, M, u, dp, tp, rfl, S, A, d0, d1, q⟩ := h
  refine ⟨_, (pss_cons (ps_set (i := 7) sc__law_nested.nd rfl (by first | exact Or.inl rfl | exact Or.inr rfl) (pe_call C__law_draw.ok (hr.mono (by omega)) (by rfl) C__law_draw.mg C__law_draw.kp C__law_draw.b .nil pass0 (pa_cons (pv 0) (pa_cons (pv 1) (pa_cons pe_int pa_nil)))))
        (pss_cons (ps_set (i := 8) sc__law_nested.nd rfl (by first | exact Or.inl rfl | exact Or.inr rfl) (pe_and (pe_cmpR op_gt (pv 5) pe_int (nomark _)) (pe_one (pe_cmpR op_gt (pe_ix (r := rIxL K) ix_list (pe_ix (r := rIxL K) ix_list (pv 2) pe_int (fun _ _ => rfl)) pe_int (fun _ _ => rfl)) pe_int (nomark _)))))
        (pss_cons (ps_set (i := 9) sc__law_nested.nd rfl (by first | exact Or.inl rfl | exact Or.inr rfl) (pe_and (pv 8) (pe_one (pe_cmpR op_lt (pe_ix (r := rIxL K) ix_list (pe_ix (r := rIxL K) ix_list (pv 2) pe_int (fun _ _ => rfl)) pe_int (fun _ _ => rfl)) (pe_callB call_len_seq (by rfl) T.b_len PySem.boot_len (pa_cons (pe_ix (r := rIxL K) ix_list (pv 2) pe_int (fun _ _ => rfl)) pa_nil)) (nomark _)))))
        (pss_cons (ps_if (PW.pt (pw_and (pt_val (pv 8)) (pw_and (pt_cmpR op_gt (pv 7) pe_int (nomark _)) (pw_and (pt_cmpR op_lt (pv 7) pe_int (nomark _)) (pw_and1 (pt_cmpR op_gt (pe_op op_add (pe_callB call_len_seq (by rfl) T.b_len PySem.boot_len (pa_cons (pv 3) pa_nil)) (pe_callB call_len_seq (by rfl) T.b_len PySem.boot_len (pa_cons (pv 4) pa_nil))) pe_int (nomark _))))))) (pss_cons (ps_asg (pe_op op_sub (pe_ix (r := rIxL K) ix_list (pe_ix (r := rIxL K) ix_list (pv 2) pe_int (fun _ _ => rfl)) pe_int (fun _ _ => rfl)) pe_int) (pg_sub (pe_ix (r := rIxL K) ix_list (pv 2) pe_int (fun _ _ => rfl)) pe_int set_list))
          (pss_cons (ps_set (i := 10) sc__law_nested.nd rfl (by first | exact Or.inl rfl | exact Or.inr rfl) (pe_call C__law_deep_test.ok (hr.mono (by omega)) (by rfl) C__law_deep_test.mg C__law_deep_test.kp C__law_deep_test.b .nil pass0 (pa_cons (pv 0) (pa_cons (pv 1) (pa_cons (pv 2) (pa_cons (pv 3) (pa_cons (pv 4) (pa_cons pe_int pa_nil))))))))
          (pss_cons (ps_set (i := 11) sc__law_nested.nd rfl (by first | exact Or.inl rfl | exact Or.inr rfl) (pe_call C__law_nest.ok (hr.mono (by omega)) (by rfl) C__law_nest.mg C__law_nest.kp C__law_nest.b .nil pass0 (pa_cons (pv 0) (pa_cons (pv 1) (pa_cons (pv 2) (pa_cons (pv 3) (pa_cons (pv 4) (pa_cons (pe_op op_sub (pv 5) pe_int) (pa_cons (pv 6) pa_nil)))))))))
          (pss_one (ps_ret (pe_tup (pa_cons pe_str (pa_cons (pv 10) (pa_cons (pv 11) (pa_cons (pe_call C__law_nest.ok (hr.mono (by omega)) (by rfl) C__law_nest.mg C__law_nest.kp C__law_nest.b .nil pass0 (pa_cons (pv 0) (pa_cons (pv 1) (pa_cons (pv 2) (pa_cons (pv 3) (pa_cons (pv 4) (pa_cons (pe_op op_sub (pv 5) pe_int) (pa_cons (pv 6) pa_nil)))))))) pa_nil)))))))))) pss_nil)
        (pss_cons (ps_if (PW.pt (pw_or (pt_not (pt_val (pv 9))) (pw_or (pt_cmpR op_gt (pv 7) pe_int (nomark _)) (pw_or1 (PW.pt (pw_and (pt_cmpR op_lt (pv 7) pe_int (nomark _)) (pw_and1 (pt_cmpR op_eq (pe_callB call_len_seq (by rfl) T.b_len PySem.boot_len (pa_cons (pv 3) pa_nil)) (pv 6) (nomark _))))))))) (pss_one (ps_ret (pe_call C__law_leaf.ok (hr.mono (by omega)) (by rfl) C__law_leaf.mg C__law_leaf.kp C__law_leaf.b .nil pass0 (pa_cons (pv 0) (pa_cons (pv 1) (pa_cons (pv 2) (pa_cons (pv 3) (pa_cons (pv 4) pa_nil)))))))) pss_nil)
        (pss_cons (ps_asg (pe_op op_sub (pe_ix (r := rIxL K) ix_list (pe_ix (r := rIxL K) ix_list (pv 2) pe_int (fun _ _ => rfl)) pe_int (fun _ _ => rfl)) pe_int) (pg_sub (pe_ix (r := rIxL K) ix_list (pv 2) pe_int (fun _ _ => rfl)) pe_int set_list))
        (pss_cons (ps_set (i := 12) sc__law_nested.nd rfl (by first | exact Or.inl rfl | exact Or.inr rfl) (pe_ix (r := rIxL K) ix_list (pe_ix (r := rIxL K) ix_list (pv 2) pe_int (fun _ _ => rfl)) (pe_ix (r := rIxL K) ix_list (pe_ix (r := rIxL K) ix_list (pv 2) pe_int (fun _ _ => rfl)) pe_int (fun _ _ => rfl)) (fun _ _ => rfl)))
        (pss_cons (ps_asg (pe_op op_add (pe_ix (r := rIxL K) ix_list (pe_ix (r := rIxL K) ix_list (pv 2) pe_int (fun _ _ => rfl)) pe_int (fun _ _ => rfl)) pe_int) (pg_sub (pe_ix (r := rIxL K) ix_list (pv 2) pe_int (fun _ _ => rfl)) pe_int set_list))
        (pss_cons (ps_if (pt_cmpR op_lt (pv 7) pe_int (nomark _)) (pss_cons (ps_set (i := 13) sc__law_nested.nd rfl (by first | exact Or.inl rfl | exact Or.inr rfl) (pe_call C__law_nest.ok (hr.mono (by omega)) (by rfl) C__law_nest.mg C__law_nest.kp C__law_nest.b .nil pass0 (pa_cons (pv 0) (pa_cons (pv 1) (pa_cons (pv 2) (pa_cons (pe_op op_cat (pv 3) (pe_lst (pa_cons (pv 12) pa_nil))) (pa_cons (pv 4) (pa_cons (pe_op op_sub (pv 5) pe_int) (pa_cons (pv 6) pa_nil)))))))))
          (pss_one (ps_ret (pe_tup (pa_cons pe_str (pa_cons (pv 12) (pa_cons (pe_ix (r := rIxL K) ix_list (pe_lst (pa_cons pe_str (pa_cons pe_str pa_nil))) (pe_call C__law_draw.ok (hr.mono (by omega)) (by rfl) C__law_draw.mg C__law_draw.kp C__law_draw.b .nil pass0 (pa_cons (pv 0) (pa_cons (pv 1) (pa_cons pe_int pa_nil)))) (fun _ _ => rfl)) (pa_cons (pv 13) pa_nil)))))))) pss_nil)
        (pss_one (ps_ret (pe_tup (pa_cons pe_str (pa_cons (pv 12) (pa_cons (pe_call C__law_nest.ok (hr.mono (by omega)) (by rfl) C__law_nest.mg C__law_nest.kp C__law_nest.b .nil pass0 (pa_cons (pv 0) (pa_cons (pv 1) (pa_cons (pv 2) (pa_cons (pv 3) (pa_cons (pe_op op_cat (pv 4) (pe_lst (pa_cons (pv 12) pa_nil))) (pa_cons (pe_op op_sub (pv 5) pe_int) (pa_cons (pv 6) pa_nil)))))))) pa_nil))))))))))))))), ?_⟩
  refine cut (fun σ H' => ∃ kd : Int, σ = [some (.ref r), some (.ref a), some (.ref wd), some (.ref la), some (.ref ma), some (.int dp), some (.int tp), some (.int kd), none, none, none, none, none, none] ∧ 0 ≤ kd ∧ kd < 12 ∧ Ev [a] H H') (fun N hN => ?_) ?_
  · walk_at "rd"
    exact ⟨r, a, 12, rfl, S.dr, by omega, fun kd H1 k0 k1 e1 => hN _ _ ⟨kd, rfl, k0, k1, e1⟩⟩
  rintro σ H1 ⟨kd, rfl, k0, k1, e1⟩
  have S1 := S.ev e1
  obtain ⟨bud, hbud⟩ := S1.wd.hba
  refine cut (fun σ H' => ∃ bm : Bool, (bm = true → 0 < dp) ∧ σ = [some (.ref r), some (.ref a), some (.ref wd), some (.ref la), some (.ref ma), some (.int dp), some (.int tp), some (.int kd), some (.bl bm), none, none, none, none, none] ∧ H' = H1) (fun N hN => ?_) ?_
  · walk_at "rd"
    refine ite2 (fun c => ⟨_, SqL.of S1.wd.hwd, _, rfl, _, rfl, _, SqL.of hbud, _, rfl, _, rfl, hN _ _ ⟨_, fun _ => of_decide_eq_true c, rfl, rfl⟩⟩) (fun c => hN _ _ ⟨false, fun z => (Bool.noConfusion z), rfl, rfl⟩)
  rintro σ H2 ⟨bm, hbm, rfl, rfl⟩
  refine cut (fun σ H' => ∃ bn : Bool, (bn = true → bm = true ∧ u < 12) ∧ σ = [some (.ref r), some (.ref a), some (.ref wd), some (.ref la), some (.ref ma), some (.int dp), some (.int tp), some (.int kd), some (.bl bm), some (.bl bn), none, none, none, none] ∧ H' = H2) (fun N hN => ?_) ?_
  · walk_at "rd"
    refine ite2 (fun c => ⟨_, SqL.of S1.wd.hwd, _, rfl, _, rfl, _, SqL.of S1.wd.hua, _, rfl, _, SqL.of S1.wd.hwd, _, rfl, _, rfl, _, .inl (SqL.of S1.wd.hpa), _, rfl, hN _ _ ⟨_, fun z => ⟨c, ?_⟩, rfl, rfl⟩⟩) (fun c => hN _ _ ⟨false, fun z => (Bool.noConfusion z), rfl, rfl⟩)
    have z2 := of_decide_eq_true z
    rw [List.length_map, A.ps.len] at z2
    omega
  rintro σ H3 ⟨bn, hbn, rfl, rfl⟩
  refine cut (fun σ H' => σ = [some (.ref r), some (.ref a), some (.ref wd), some (.ref la), some (.ref ma), some (.int dp), some (.int tp), some (.int kd), some (.bl bm), some (.bl bn), none, none, none, none] ∧ H' = H3) (fun N hN => ?_) ?_
  · walk_at "rd"
    refine ite2 (fun cb => ite2 (fun c5 => ite2 (fun c9 => ⟨_, .inl (SqL.of S1.la), _, .inl (SqL.of S1.ma), ite2 (fun cn => ?_) (fun _ => hN _ _ ⟨rfl, rfl⟩)⟩) (fun _ => hN _ _ ⟨rfl, rfl⟩)) (fun _ => hN _ _ ⟨rfl, rfl⟩)) (fun _ => hN _ _ ⟨rfl, rfl⟩)
    have hdp := hbm cb
    have hne : L ≠ [] ∨ M ≠ [] := by
      have h0 := of_decide_eq_true cn
      rw [List.length_map, List.length_map] at h0
      by_cases h : L = []
      · right
        intro h2
        rw [h, h2] at h0
        simp at h0
      · exact .inl h
    have eB : Ev [a, ua, ba] H3 (upd H3 ba (.lst [.int (bud - 1)])) := Ev.set hbud (by simp) _
    have hua2 : (upd H3 ba (.lst [.int (bud - 1)])) ua = some (.lst [.int (u : Int)]) := (upd_ne S1.wd.ne2).trans S1.wd.hua
    have S2 := S1.ev' eB hua2
    refine ⟨_, SqL.of S1.wd.hwd, _, rfl, _, rfl, _, SqL.of hbud, _, rfl, _, rfl, _, SqL.of S1.wd.hwd, _, rfl, _, rfl, _, hbud, 0, rfl, ?_⟩
    refine ⟨r, a, wd, la, ma, pa, ua, ba, al, pr, ps, L, M, u, 4, rfl, S2, A.al, hne, by omega, by omega, fun vt t H4 e4 r4 o4 d4 => ?_⟩
    have S4 := S2.ev e4
    refine ⟨r, a, wd, la, ma, pa, ua, ba, al, pr, ps, L, M, u, dp - 1, tp, rfl, S4, A, by omega, by omega, fun v5 vs5 b5 u5 H5 e5 h5 f5 r5 o5 n5 dd5 w5 l5 hu5 => ?_⟩
    have S5 := S4.ev' e5 hu5
    have A5 : Ask al pr ps L M u5 := ⟨A.al, A.pr, A.ps, n5.2.1, Nat.le_trans A.ll n5.1, Nat.le_trans A.ml n5.1⟩
    refine ⟨r, a, wd, la, ma, pa, ua, ba, al, pr, ps, L, M, u5, dp - 1, tp, rfl, S5, A5, by omega, by omega, fun v6 vs6 b6 u6 H6 e6 h6 f6 r6 o6 n6 dd6 w6 l6 hu6 => ⟨by decide, fun p hp => ?_⟩⟩
    have ee : Ev [a, ua, ba] H (upd H6 p (.tup [.str (Str.ofString "if"), vt, .ref v5, .ref v6])) := ((e1.mono (by simp)).trans eB).trans ((e4.mono (by simp)).trans (e5.trans (e6.trans (Ev.new hp _))))
    have sn := same_new hp (HO.tup [.str (Str.ofString "if"), vt, .ref v5, .ref v6])
    refine q _ (.cond t b5 b6) u6 _ ee ?_ ⟨o4, by omega, o5, o6⟩ (n5.app n6) (by show ((max (depL b5) (depL b6) + 1 : Nat) : Int) ≤ dp; omega) ?_ ((upd_ne (ne_of_none hu6 hp)).trans hu6)
    · have d4 : Dom H H4 := ((e1.dom).trans eB.dom).trans e4.dom
      have d5 : Dom H H5 := d4.trans e5.dom
      refine Rep.seqIff.mpr ⟨p, _, rfl, .inl (mx_tup.mpr upd_same), .cons (Rep.strIff.mpr rfl) (.cons (((r4.ev e5).ev e6).same sn).toMx (.cons ?_ (.one ?_)))⟩
      · refine Rep.seqIff.mpr ⟨v5, vs5, rfl, .inr ⟨rfl, mx_lst.mpr ⟨?_, d4 _ f5⟩⟩, r5.mx d4 (e6.kp.trans (kp_same sn))⟩
        exact (e6.kp.trans (kp_same sn)).l _ _ r5.items h5
      · exact Rep.seqIff.mpr ⟨v6, vs6, rfl, .inr ⟨rfl, mx_lst.mpr ⟨sn _ _ h6, d5 _ f6⟩⟩, r6.mx d5 (kp_same sn)⟩
    · show wtL b5 + wtL b6 + 1100 ≤ Wmax dp.toNat
      have e : dp.toNat = (dp - 1).toNat + 1 := by omega
      rw [e]
      show _ ≤ 6 * Wmax (dp - 1).toNat + 1100
      omega
  rintro σ H4 ⟨rfl, rfl⟩
  refine cut (fun σ H' => bn = true ∧ σ = [some (.ref r), some (.ref a), some (.ref wd), some (.ref la), some (.ref ma), some (.int dp), some (.int tp), some (.int kd), some (.bl bm), some (.bl bn), none, none, none, none] ∧ H' = H4) (fun N hN => ?_) ?_
  · walk_at "rd"
    have leaf : spLeaf [V.ref r, V.ref a, V.ref wd, V.ref la, V.ref ma] H4 Q E0 :=
      ⟨r, a, wd, la, ma, pa, ua, ba, al, pr, ps, L, M, u, rfl, S1, A.al, A.pr, fun v w x H5 e5 r5 o5 => q v (.leaf w x) u H5 ((e1.trans e5).mono (by simp)) r5.toMx o5 (Part.nil A.uu) (by show ((0 : Nat) : Int) ≤ dp; omega) (Wmax_ge _)
        ((S1.ev e5).wd.hua)⟩
    refine ite2 (fun _ => leaf) (fun cb => ?_)
    have hb : bn = true := by simpa using cb
    refine ite2 (fun _ => leaf) (fun _ => ite2 (fun _ => ⟨_, .inl (SqL.of S1.la), rfl, ite2 (fun _ => leaf) (fun _ => hN _ _ ⟨hb, rfl, rfl⟩)⟩) (fun _ => hN _ _ ⟨hb, rfl, rfl⟩))
  rintro σ H5 ⟨hbn2, rfl, rfl⟩
  have hu := hbn hbn2
  have hdp := hbm hu.1
  obtain ⟨x, hx⟩ : ∃ x, ps[u]? = some x := ⟨_, List.getElem?_eq_getElem (by rw [A.ps.len]; exact hu.2)⟩
  have eB : Ev [a, ua, ba] H5 (upd H5 ba (.lst [.int (bud - 1)])) := Ev.set hbud (by simp) _
  have hua2 : (upd H5 ba (.lst [.int (bud - 1)])) ua = some (.lst [.int (u : Int)]) := (upd_ne S1.wd.ne2).trans S1.wd.hua
  have S2 := S1.ev' eB hua2
  refine cut (fun σ H' => σ = [some (.ref r), some (.ref a), some (.ref wd), some (.ref la), some (.ref ma), some (.int dp), some (.int tp), some (.int kd), some (.bl bm), some (.bl bn), none, none, none, none] ∧ H' = upd H5 ba (.lst [.int (bud - 1)])) (fun N hN => ?_) ?_
  · walk_at "rd"
    refine ⟨_, SqL.of S1.wd.hwd, _, rfl, _, rfl, _, SqL.of hbud, _, rfl, _, rfl, _, SqL.of S1.wd.hwd, _, rfl, _, rfl, _, hbud, 0, rfl, hN _ _ ⟨rfl, rfl⟩⟩
  rintro σ H6 ⟨rfl, hH6⟩
  rw [← hH6] at S2 eB hua2
  have hat : atI (ps.map V.str) (u : Int) = some (.str x) := at_ofN (by rw [List.getElem?_map, hx]; rfl)
  have eU : Ev [a, ua, ba] H6 (upd H6 ua (.lst [.int ((u + 1 : Nat) : Int)])) := Ev.set hua2 (by simp) _
  have S3 := S2.ev' eU upd_same
  have hok : NameOk x := A.ps.ok x (List.mem_of_getElem? hx)
  refine cut (fun σ H' => σ = [some (.ref r), some (.ref a), some (.ref wd), some (.ref la), some (.ref ma), some (.int dp), some (.int tp), some (.int kd), some (.bl bm), some (.bl bn), none, none, some (.str x), none] ∧ H' = H6) (fun N hN => ?_) ?_
  · walk_at "rd"
    exact ⟨_, SqL.of S2.wd.hwd, _, rfl, _, SqL.of S2.wd.hwd, _, rfl, _, rfl, _, SqL.of S2.wd.hua, _, rfl, _, rfl, _, _, rfl, SqL.of S2.wd.hpa, _, hat, hN _ _ ⟨rfl, rfl⟩⟩
  rintro σ H7 ⟨rfl, rfl⟩
  refine cut (fun σ H' => σ = [some (.ref r), some (.ref a), some (.ref wd), some (.ref la), some (.ref ma), some (.int dp), some (.int tp), some (.int kd), some (.bl bm), some (.bl bn), none, none, some (.str x), none] ∧ H' = upd H7 ua (.lst [.int ((u + 1 : Nat) : Int)])) (fun N hN => ?_) ?_
  · walk_at "rd"
    refine ⟨_, SqL.of S2.wd.hwd, _, rfl, _, rfl, _, SqL.of S2.wd.hua, _, rfl, _, rfl, _, SqL.of S2.wd.hwd, _, rfl, _, rfl, _, S2.wd.hua, 0, rfl, hN _ _ ⟨rfl, rfl⟩⟩
  rintro σ H8 ⟨rfl, hH8⟩
  rw [← hH8] at S3 eU
  have ee1 : Ev [a, ua, ba] H H8 := ((e1.mono (by simp)).trans eB).trans eU
  have big : ∀ n : Nat, n ≤ 1000 → n ≤ sizeLine := fun n h => Nat.le_of_lt (small1000 h)
  have hll := A.ll
  have hml := A.ml
  have hW : ∀ n : Nat, n ≤ 3 * Wmax (dp - 1).toNat → n + 200 ≤ Wmax dp.toNat := fun n hn => by
    have e : dp.toNat = (dp - 1).toNat + 1 := by omega
    rw [e]
    show _ ≤ 6 * Wmax (dp - 1).toNat + 1100
    omega
  refine cut (fun σ H' => σ = [some (.ref r), some (.ref a), some (.ref wd), some (.ref la), some (.ref ma), some (.int dp), some (.int tp), some (.int kd), some (.bl bm), some (.bl bn), none, none, some (.str x), none] ∧ H' = H8) (fun N hN => ?_) ?_
  · walk_at "rd"
    refine ite2 (fun c => ⟨by decide, fun p hp => ⟨_, (upd_ne (ne_of_none S3.la hp)).trans S3.la, _, upd_same, big _ (by rw [List.length_map]; show L.length + 1 ≤ 1000; omega), fun p1 hp1 => ?_⟩⟩) (fun c => hN _ _ ⟨rfl, rfl⟩)
    have eL : Ev [a] H8 (upd (upd H8 p (.lst [.str x])) p1 (.lst (L.map V.str ++ [.str x]))) := (Ev.new hp _).trans (Ev.new hp1 _)
    have S4 := S3.ev eL
    have S4' : Scn (upd (upd H8 p (.lst [.str x])) p1 (.lst (L.map V.str ++ [.str x]))) r a wd p1 ma pa ua ba al pr ps (L ++ [x]) M (u + 1) := ⟨S4.dr, S4.wd, by rw [upd_same, List.map_append]; rfl, S4.ma⟩
    refine ⟨r, a, wd, p1, ma, pa, ua, ba, al, pr, ps, L ++ [x], M, u + 1, dp - 1, tp, rfl, S4', ⟨A.al, A.pr, A.ps, by omega, by rw [List.length_append]; show L.length + 1 ≤ u + 1; omega, by omega⟩, by omega, by omega, fun v5 vs5 b5 u5 H5 e5 h5 f5 r5 o5 n5 dd5 w5 l5 hu5 => ⟨by decide, fun p2 hp2 => ?_⟩⟩
    have S5 := S4'.ev' e5 hu5
    have eN : Ev [a] H5 (upd H5 p2 (.lst ([Str.ofString "up", Str.ofString "down"].map V.str))) := Ev.new hp2 _
    have S6 := S5.ev eN
    refine ⟨r, a, 2, rfl, S6.dr, by omega, fun v6 H6 v60 v61 e6 => ?_⟩
    have hp6 := Strs.ev (ys := [Str.ofString "up", Str.ofString "down"]) upd_same e6
    obtain ⟨w0, hw0, hat0⟩ := pick_str [Str.ofString "up", Str.ofString "down"] v60 v61
    refine ⟨_, v6, rfl, SqL.of hp6, _, hat0, by decide, fun p3 hp3 => ?_⟩
    have sn := same_new hp3 (HO.tup [.str (Str.ofString "for"), .str x, .str w0, .ref v5])
    have ee : Ev [a, ua, ba] H (upd H6 p3 (.tup [.str (Str.ofString "for"), .str x, .str w0, .ref v5])) := ((ee1.trans (eL.mono (by simp))).trans e5).trans (((eN.trans e6).mono (by simp)).trans (Ev.new hp3 _))
    have S7 := S6.ev e6
    refine q _ (.loop x w0 b5) u5 _ ee ?_ ⟨hok, ?_, o5⟩ (n5.one hx) (by show ((depL b5 + 1 : Nat) : Int) ≤ dp; omega) (hW _ w5) ((upd_ne (ne_of_none S7.wd.hua hp3)).trans S7.wd.hua)
    · have d4 : Dom H (upd (upd H8 p (.lst [.str x])) p1 (.lst (L.map V.str ++ [.str x]))) := ee1.dom.trans eL.dom
      refine Rep.seqIff.mpr ⟨p3, _, rfl, .inl (mx_tup.mpr upd_same), .cons (Rep.strIff.mpr rfl) (.cons (Rep.strIff.mpr rfl) (.cons (Rep.strIff.mpr rfl) (.one ?_)))⟩
      refine Rep.seqIff.mpr ⟨v5, vs5, rfl, .inr ⟨rfl, mx_lst.mpr ⟨?_, d4 _ f5⟩⟩, r5.mx d4 ((eN.trans e6).kp.trans (kp_same sn))⟩
      exact ((eN.trans e6).kp.trans (kp_same sn)).l _ _ r5.items h5
    · rcases List.mem_cons.mp hw0 with h | h
      · exact .inl h
      · exact .inr (List.mem_singleton.mp h)
  rintro σ H9 ⟨rfl, rfl⟩
  walk_at "rd"
  refine ⟨by decide, fun p hp => ⟨_, (upd_ne (ne_of_none S3.ma hp)).trans S3.ma, _, upd_same, big _ (by rw [List.length_map]; show M.length + 1 ≤ 1000; omega), fun p1 hp1 => ?_⟩⟩
  have eL : Ev [a] H9 (upd (upd H9 p (.lst [.str x])) p1 (.lst (M.map V.str ++ [.str x]))) := (Ev.new hp _).trans (Ev.new hp1 _)
  have S4 := S3.ev eL
  have S4' : Scn (upd (upd H9 p (.lst [.str x])) p1 (.lst (M.map V.str ++ [.str x]))) r a wd la p1 pa ua ba al pr ps L (M ++ [x]) (u + 1) := ⟨S4.dr, S4.wd, S4.la, by rw [upd_same, List.map_append]; rfl⟩
  refine ⟨r, a, wd, la, p1, pa, ua, ba, al, pr, ps, L, M ++ [x], u + 1, dp - 1, tp, rfl, S4', ⟨A.al, A.pr, A.ps, by omega, by omega, by rw [List.length_append]; show M.length + 1 ≤ u + 1; omega⟩, by omega, by omega, fun v5 vs5 b5 u5 H5 e5 h5 f5 r5 o5 n5 dd5 w5 l5 hu5 => ⟨by decide, fun p3 hp3 => ?_⟩⟩
  have sn := same_new hp3 (HO.tup [.str (Str.ofString "mark"), .str x, .ref v5])
  have ee : Ev [a, ua, ba] H (upd H5 p3 (.tup [.str (Str.ofString "mark"), .str x, .ref v5])) := ((ee1.trans (eL.mono (by simp))).trans e5).trans (Ev.new hp3 _)
  refine q _ (.mark x b5) u5 _ ee ?_ ⟨hok, o5⟩ (n5.one hx) (by show ((depL b5 + 1 : Nat) : Int) ≤ dp; omega) (hW _ w5) ((upd_ne (ne_of_none hu5 hp3)).trans hu5)
  have d4 : Dom H (upd (upd H9 p (.lst [.str x])) p1 (.lst (M.map V.str ++ [.str x]))) := ee1.dom.trans eL.dom
  refine Rep.seqIff.mpr ⟨p3, _, rfl, .inl (mx_tup.mpr upd_same), .cons (Rep.strIff.mpr rfl) (.cons (Rep.strIff.mpr rfl) (.one ?_))⟩
  exact Rep.seqIff.mpr ⟨v5, vs5, rfl, .inr ⟨rfl, mx_lst.mpr ⟨sn _ _ h5, d4 _ f5⟩⟩, r5.mx d4 (kp_same sn)⟩
theorem ok_nest {m : Nat} (F : Fun K "_law_nest" "_law_nest" s__law_nest f fd) (T : Bt mg) (C__law_draw : Cl P w K mg base "_law_draw" 1 ["row", "at", "size"] spDraw)
    (C__law_nested : Cl P w K mg base "_law_nested" (2 * m + 8) ["row", "at", "world", "loops", "marks", "deep", "top"] (spNested m)) :
    FnOk P w K mg base CX0 (2 * m + 9) f fd ["row", "at", "world", "loops", "marks", "deep", "top"] (spNest m) := by
  refine F.ok sc__law_nest (fun vs H Q E h => ?_) (fun cdv A outer s H vs Q E hr h => ?_)
  · obtain ⟨r, a, wd, la, ma, pa, ua, ba, al, pr, ps, L, M, u, dp, tp, rfl, _⟩ := h
    rfl
  obtain ⟨r, a, wd, la, ma, pa, ua, ba, al, pr, ps, L, M, u, dp, tp, rfl, S, A, d0, d1, q⟩ := h
  refine ⟨_, (pss_cons (ps_set (i := 7) sc__law_nest.nd rfl (by first | exact Or.inl rfl | exact Or.inr rfl) (pe_ix (r := rIxL K) ix_list (pe_lst (pa_cons pe_int (pa_cons pe_int (pa_cons pe_int (pa_cons pe_int (pa_cons pe_int (pa_cons pe_int pa_nil))))))) (pe_call C__law_draw.ok (hr.mono (by omega)) (by rfl) C__law_draw.mg C__law_draw.kp C__law_draw.b .nil pass0 (pa_cons (pv 0) (pa_cons (pv 1) (pa_cons pe_int pa_nil)))) (fun _ _ => rfl)))
        (pss_one (ps_ret (pe_lc (own := [("k", 8)]) (g := gName 8) (by rfl) sc__law_nest.nd (pi_range1 (by rfl) T.b_range (pa_cons (pv 7) pa_nil)) (blkOk_by (N := ["row", "at", "world", "loops", "marks", "deep", "top", "many", "k"]) (sc := defScope s__law_nest) (by decide +kernel)) (fun _ _ _ _ _ => pg_name (i := 8) sc__law_nest.nd rfl (by first | exact Or.inl rfl | exact Or.inr rfl)) (fun _ _ _ _ _ => pts_nil) (fun _ _ _ _ _ => (pe_call C__law_nested.ok (hr.mono (by omega)) (by rfl) C__law_nested.mg C__law_nested.kp C__law_nested.b .nil pass0 (pa_cons (pv 0) (pa_cons (pv 1) (pa_cons (pv 2) (pa_cons (pv 3) (pa_cons (pv 4) (pa_cons (pv 5) (pa_cons (pv 6) pa_nil))))))))))))), ?_⟩
  walk_at "rd"
  refine ⟨by decide, fun p hp => ?_⟩
  have e1 : Ev [a] H (upd H p (.lst ([1, 2, 0, 3, 1, 2].map V.int))) := Ev.new hp _
  have S1 := S.ev e1
  refine ⟨r, a, 6, rfl, S1.dr, by omega, fun v H2 v0 v1 e2 => ?_⟩
  have S2 := S1.ev e2
  have e3 := e1.trans e2
  have hp3 := e2.obj (b := p) (o := .lst ([1, 2, 0, 3, 1, 2].map V.int)) upd_same (fun i q => by simp at q)
  obtain ⟨n, hn, hat⟩ := pick_int [1, 2, 0, 3, 1, 2] v0 v1
  have hn3 : 0 ≤ n ∧ n ≤ 3 := by
    have : ∀ x ∈ ([1, 2, 0, 3, 1, 2] : List Int), 0 ≤ x ∧ x ≤ 3 := by decide
    exact this n hn
  refine ⟨_, v, rfl, SqL.of hp3, _, hat, ?_⟩
  refine ⟨_, rfl, n, rfl, by omega, by omega, fun D hD => lc_range (lo := 0) (n := n.toNat) (fun i H' => ∃ (vs : List V) (b : List Stm) (u' : Nat), H' D = some (.lst vs) ∧ RepL false (Mx (upd H2 D (.lst [])) H') vs (encL b) ∧ okL al pr L M b ∧ Part ps u u' (namesL b) ∧ (depL b : Int) ≤ dp ∧ wtL b ≤ i * Wmax dp.toNat ∧ b.length = i ∧ Ev [a, ua, ba] H H' ∧ Dom (upd H2 D (.lst [])) H' ∧ H' ua = some (.lst [.int (u' : Int)]))
    ⟨[], [], u, upd_same, by unfold encL; exact RepL.nil, okL_nil, by unfold namesL; exact Part.nil A.uu, by unfold depL; omega, by unfold wtL; omega, rfl, (e3.mono (by simp)).over (e3.free hD), Dom.refl, (upd_ne (ne_of_none S2.wd.hua hD)).trans S2.wd.hua⟩ ?_ ?_⟩
  · rintro i H' hi ⟨vs, b, u', hDl, hR, ho, hN, hdd, hw, hl, ev, dm, hu'⟩
    walk_at "rd"
    have S3 := S.ev' ev hu'
    refine ⟨r, a, wd, la, ma, pa, ua, ba, al, pr, ps, L, M, u', dp, tp, rfl, S3, ⟨A.al, A.pr, A.ps, hN.2.1, Nat.le_trans A.ll hN.1, Nat.le_trans A.ml hN.1⟩, d0, d1, fun w s2 u2 H4 e4 r4 o4 n4 dd4 w4 hu4 => ?_⟩
    have hD0 : H D = none := e3.free hD
    have hDl4 := e4.kp.l _ _ hR.items hDl
    have hDne : (upd H2 D (.lst [])) D ≠ none := by
      rw [upd_same]
      simp
    have hDu : ua ≠ D := ne_of_none S.wd.hua hD0
    refine ⟨vs, hDl4, ?_, vs ++ [w], upd_same, b ++ [s2], ?_, okL_append ho (okL_cons.mpr ⟨o4, okL_nil⟩), u2, ?_, ?_, ?_, by rw [List.length_append, hl]; rfl, (ev.trans e4).over hD0, ?_, (upd_ne hDu).trans hu4⟩
    · rw [hR.len, encL_len, hl]
      exact small1000 (by omega)
    · refine RepL.mxUpd ?_ hDne (fun xs z => by rw [hDl4] at z; cases z)
      rw [encL_append]
      have e5 : encL [s2] = [s2.enc] := by unfold encL; unfold encL; rfl
      rw [e5]
      exact (hR.mx Dom.refl e4.kp).append (.one (r4.mx dm Kp.refl))
    · rw [namesL_append]
      have e5 : namesL [s2] = s2.names := by unfold namesL; unfold namesL; simp
      rw [e5]
      exact hN.app n4
    · rw [depL_append]
      have e5 : depL [s2] = s2.dep := by unfold depL; unfold depL; simp
      rw [e5]
      omega
    · rw [wtL_append]
      have e5 : wtL [s2] = s2.wt := by unfold wtL; unfold wtL; simp
      rw [e5, Nat.add_mul, Nat.one_mul]
      omega
    · exact (dm.trans e4.dom).trans Dom.upd
  · rintro H' ⟨vs, b, u', hDl, hR, ho, hN, hdd, hw, hl, ev, dm, hu'⟩
    refine q D vs b u' H' ev hDl (e3.free hD) (hR.mx (e3.dom.trans Dom.upd) Kp.refl) ho hN hdd (Nat.le_trans hw (Nat.mul_le_mul_right _ (by omega))) (by omega) hu'
theorem both_nest {f g : Addr} {fd gd : FuncData} (F : Fun K "_law_nested" "_law_nested" s__law_nested f fd) (G : Fun K "_law_nest" "_law_nest" s__law_nest g gd) (T : Bt mg) (C__law_draw : Cl P w K mg base "_law_draw" 1 ["row", "at", "size"] spDraw) (C__law_deep_test : Cl P w K mg base "_law_deep_test" 8 ["row", "at", "world", "loops", "marks", "deep"] (spDeep 5))
    (C__law_leaf : Cl P w K mg base "_law_leaf" 3 ["row", "at", "world", "loops", "marks"] spLeaf) (bF : Binds K fd ["row", "at", "world", "loops", "marks", "deep", "top"] []) (bG : Binds K gd ["row", "at", "world", "loops", "marks", "deep", "top"] []) (mF : mg "_law_nested" = some (.ref f)) (mG : mg "_law_nest" = some (.ref g)) :
    ∀ m : Nat, FnOk P w K mg base CX0 (2 * m + 8) f fd ["row", "at", "world", "loops", "marks", "deep", "top"] (spNested m) ∧ FnOk P w K mg base CX0 (2 * m + 9) g gd ["row", "at", "world", "loops", "marks", "deep", "top"] (spNest m)
  | 0 => by
    have a : FnOk P w K mg base CX0 (2 * 0 + 8) f fd ["row", "at", "world", "loops", "marks", "deep", "top"] (spNested 0) := FnOk.none fun vs H Q E h => by
      obtain ⟨r, a, wd, la, ma, pa, ua, ba, al, pr, ps, L, M, u, dp, tp, rfl, S, A, d0, d1, q⟩ := h
      omega
    exact ⟨a, ok_nest (m := 0) G T C__law_draw ⟨f, fd, a, bF, F.kp, mF⟩⟩
  | m + 1 => by
    have ih := both_nest F G T C__law_draw C__law_deep_test C__law_leaf bF bG mF mG m
    have a : FnOk P w K mg base CX0 (2 * (m + 1) + 8) f fd ["row", "at", "world", "loops", "marks", "deep", "top"] (spNested (m + 1)) := ok_nested F T C__law_draw C__law_deep_test C__law_leaf ⟨g, gd, ih.2, bG, G.kp, mG⟩
    exact ⟨a, ok_nest (m := m + 1) G T C__law_draw ⟨f, fd, a, bF, F.kp, mF⟩⟩
end
end TW
/-! E11 -/
set_option Elab.async false
set_option linter.all false
set_option maxRecDepth 100000
set_option maxHeartbeats 4000000
namespace TW
open PySem L2 TL
local macro_rules | `(tactic| walk_at "rd") => `(tactic| simp only [tSeq, tAsg, tOp, tUn, tVar, tCB, tCons, tNil, tRet, tDrop, gName, gSub, gTup, gCons, gNil, rI, rI0, rU, rIxL, rIxT, rIxS, rSetL, tC, L2.start, cxOf, tIfS, tIf, tTest, tB, tAnd, tOr, tNot, tAndV, tOrV, tNotV, tChain, tTup, tLst, tCall, tNext, tNever,
  rEq, rNe, tBM, tBM0, rCat, rRep, rIn, tSl, rSlL, rSlT, rSlS, rAll, rAny, rSortedS, rAppend, rPop, rExtend, tyV, tFld, tM1, tFmt, tJs, tRev, tKGet, rRvL, rRvT, rRvS, rExtendT, rLstS, rRepS, tNoPart, tPart, tYes, StX.tStar, wipe, rIx,
  List.map, List.length, List.replicate, List.append, List.nil_append, List.cons_append, List.append_nil, List.set, Nat.zero_add, Nat.add_zero, Nat.reduceAdd, Nat.reduceSub, List.getElem?_cons_zero, List.getElem?_cons_succ, List.length_cons, List.length_nil, List.set_cons_zero, List.set_cons_succ, List.getElem?_nil, Option.some.injEq, V.ref.injEq, V.int.injEq, V.str.injEq, V.bl.injEq, List.cons.injEq, and_true, true_and, exists_eq_left, exists_eq_left', exists_eq', exists_eq, exists_and_left, exists_const, reduceCtorEq, false_or, or_false, true_or, or_true, false_and, and_false, and_assoc, if_true, if_false, Bool.false_eq_true, Bool.true_eq_false])
local macro_rules | `(tactic| walk_at "rdd") => `(tactic| simp only [tSeq, tAsg, tOp, tUn, tVar, tCB, tCons, tNil, tRet, tDrop, gName, gSub, gTup, gCons, gNil, rI, rI0, rU, rIxL, rIxT, rIxS, rSetL, tC, L2.start, cxOf, tIfS, tIf, tTest, tB, tAnd, tOr, tNot, tAndV, tOrV, tNotV, tChain, tTup, tLst, tCall, tNext, tNever,
  rEq, rNe, tBM, tBM0, rCat, rRep, rIn, tSl, rSlL, rSlT, rSlS, rAll, rAny, rSortedS, rAppend, rPop, rExtend, tyV, tFld, tM1, tFmt, tJs, tRev, tKGet, rRvL, rRvT, rRvS, rExtendT, rLstS, rRepS, tNoPart, tPart, tYes, StX.tStar, wipe, rIx, tFor, tWhile, tLc, iList, iTup, iSeq, iStr, iRng1, iRng2, iEnumS, iZipS,
  List.map, List.length, List.replicate, List.append, List.nil_append, List.cons_append, List.append_nil, List.set, Nat.zero_add, Nat.add_zero, Nat.reduceAdd, Nat.reduceSub, List.getElem?_cons_zero, List.getElem?_cons_succ, List.length_cons, List.length_nil, List.set_cons_zero, List.set_cons_succ, List.getElem?_nil, Option.some.injEq, V.ref.injEq, V.int.injEq, V.str.injEq, V.bl.injEq, List.cons.injEq, and_true, true_and, exists_eq_left, exists_eq_left', exists_eq', exists_eq, exists_and_left, exists_const, reduceCtorEq, false_or, or_false, true_or, or_true, false_and, and_false, and_assoc, if_true, if_false, Bool.false_eq_true, Bool.true_eq_false])
section
variable {P : Program} {w : World} {K : PySem.W.Frag} {mg : Str → Option Value} {base : Heap} {f g : Addr} {fd gd : FuncData}
theorem ifcut {c : TT} {A B : TS} {D : Ends} {σ : St} {H : Hp} (I J : Hp → Prop) (h : ∀ X Y : Hp → Prop, (∀ H, I H → X H) → (∀ H, J H → Y H) → c σ H (fun b H1 => if b = true then X H1 else Y H1)) (hA : ∀ H, I H → A D σ H) (hB : ∀ H, J H → B D σ H) : tIfS c A B D σ H :=
  h (fun H => A D σ H) (fun H => B D σ H) hA hB
theorem encL_one (s : Stm) : encL [s] = [s.enc] := by unfold encL; unfold encL; rfl
theorem namesL_one (s : Stm) : namesL [s] = s.names := by unfold namesL; unfold namesL; simp
theorem depL_one (s : Stm) : depL [s] = s.dep := by unfold depL; unfold depL; simp
theorem wtL_one (s : Stm) : wtL [s] = s.wt := by unfold wtL; unfold wtL; simp
def spTower (m : Nat) : Sp := fun vs H Q _ => ∃ (r a wd la ma pa ua ba : Addr) (al pr : Str) (ps L M : List Str) (u : Nat) (sz : Int), vs = [.ref r, .ref a, .ref wd, .ref la, .ref ma, .int sz] ∧ Scn H r a wd la ma pa ua ba al pr ps L M u ∧ Ask al pr ps L M u ∧ (L ≠ [] ∨ M ≠ [] ∨ u = 0) ∧ 0 ≤ sz ∧ sz < (m : Int) ∧
  ∀ (v : Addr) (vs : List V) (b : List Stm) (u' : Nat) (H' : Hp), Ev [a, ua, ba] H H' → H' v = some (.lst vs) → H v = none → RepL false (Mx H H') vs (encL b) → okL al pr L M b → Part ps u u' (namesL b) → (depL b : Int) ≤ sz → (wtL b : Int) ≤ 1100 * sz + 220 → b.length ≤ 2 → H' ua = some (.lst [.int (u' : Int)]) → Q (.ref v) H'
theorem ok_tower {m : Nat} (F : Fun K "_law_tower" "_law_tower" s__law_tower f fd) (T : Bt mg) (C__law_draw : Cl P w K mg base "_law_draw" 1 ["row", "at", "size"] spDraw) (C__law_deep_test : Cl P w K mg base "_law_deep_test" 8 ["row", "at", "world", "loops", "marks", "deep"] (spDeep 5))
    (C__law_leaf : Cl P w K mg base "_law_leaf" 3 ["row", "at", "world", "loops", "marks"] spLeaf) (C__law_tower : Cl P w K mg base "_law_tower" (m + 8) ["row", "at", "world", "loops", "marks", "size"] (spTower m)) :
    FnOk P w K mg base CX0 (m + 9) f fd ["row", "at", "world", "loops", "marks", "size"] (spTower (m + 1)) := by
  refine F.ok sc__law_tower (fun vs H Q E h => ?_) (fun cdv A outer s H vs Q E hr h => ?_)
  · obtain ⟨r, a, wd, la, ma, pa, ua, ba, al, pr, ps, L, M, u, sz, rfl, _⟩ := h
    rfl
  obtain ⟨r, a, wd, la, ma, pa, ua, ba, al, pr, ps, L, M, u, sz, rfl, S, A, hne, d0, d1, q⟩ := h
  refine ⟨_, (pss_cons (ps_if (pt_cmpR op_eq (pv 5) pe_int (nomark _)) (pss_one (ps_ret (pe_lst (pa_cons (pe_call C__law_leaf.ok (hr.mono (by omega)) (by rfl) C__law_leaf.mg C__law_leaf.kp C__law_leaf.b .nil pass0 (pa_cons (pv 0) (pa_cons (pv 1) (pa_cons (pv 2) (pa_cons (pv 3) (pa_cons (pv 4) pa_nil)))))) (pa_cons (pe_call C__law_leaf.ok (hr.mono (by omega)) (by rfl) C__law_leaf.mg C__law_leaf.kp C__law_leaf.b .nil pass0 (pa_cons (pv 0) (pa_cons (pv 1) (pa_cons (pv 2) (pa_cons (pv 3) (pa_cons (pv 4) pa_nil)))))) pa_nil))))) pss_nil)
        (pss_cons (ps_set (i := 6) sc__law_tower.nd rfl (by first | exact Or.inl rfl | exact Or.inr rfl) (pe_call C__law_draw.ok (hr.mono (by omega)) (by rfl) C__law_draw.mg C__law_draw.kp C__law_draw.b .nil pass0 (pa_cons (pv 0) (pa_cons (pv 1) (pa_cons pe_int pa_nil)))))
        (pss_cons (ps_set (i := 7) sc__law_tower.nd rfl (by first | exact Or.inl rfl | exact Or.inr rfl) (pe_cmpR op_lt (pe_ix (r := rIxL K) ix_list (pe_ix (r := rIxL K) ix_list (pv 2) pe_int (fun _ _ => rfl)) pe_int (fun _ _ => rfl)) (pe_callB call_len_seq (by rfl) T.b_len PySem.boot_len (pa_cons (pe_ix (r := rIxL K) ix_list (pv 2) pe_int (fun _ _ => rfl)) pa_nil)) (nomark _)))
        (pss_cons (ps_if (PW.pt (pw_and (pt_val (pv 7)) (pw_and1 (PW.pt (pw_or (pt_cmpR op_eq (pe_op op_add (pe_callB call_len_seq (by rfl) T.b_len PySem.boot_len (pa_cons (pv 3) pa_nil)) (pe_callB call_len_seq (by rfl) T.b_len PySem.boot_len (pa_cons (pv 4) pa_nil))) pe_int (nomark _)) (pw_or1 (pt_cmpR op_lt (pv 6) pe_int (nomark _)))))))) (pss_cons (ps_set (i := 8) sc__law_tower.nd rfl (by first | exact Or.inl rfl | exact Or.inr rfl) (pe_ix (r := rIxL K) ix_list (pe_ix (r := rIxL K) ix_list (pv 2) pe_int (fun _ _ => rfl)) (pe_ix (r := rIxL K) ix_list (pe_ix (r := rIxL K) ix_list (pv 2) pe_int (fun _ _ => rfl)) pe_int (fun _ _ => rfl)) (fun _ _ => rfl)))
          (pss_cons (ps_asg (pe_op op_add (pe_ix (r := rIxL K) ix_list (pe_ix (r := rIxL K) ix_list (pv 2) pe_int (fun _ _ => rfl)) pe_int (fun _ _ => rfl)) pe_int) (pg_sub (pe_ix (r := rIxL K) ix_list (pv 2) pe_int (fun _ _ => rfl)) pe_int set_list))
          (pss_cons (ps_if (PW.pt (pw_and (pt_cmpR op_lt (pe_callB call_len_seq (by rfl) T.b_len PySem.boot_len (pa_cons (pv 3) pa_nil)) pe_int (nomark _)) (pw_and1 (PW.pt (pw_or (pt_cmpR op_eq (pe_op op_mod (pv 6) pe_int) pe_int (nomark _)) (pw_or1 (pt_cmpR op_eq (pe_callB call_len_seq (by rfl) T.b_len PySem.boot_len (pa_cons (pv 4) pa_nil)) pe_int (nomark _)))))))) (pss_cons (ps_set (i := 9) sc__law_tower.nd rfl (by first | exact Or.inl rfl | exact Or.inr rfl) (pe_call C__law_tower.ok (hr.mono (by omega)) (by rfl) C__law_tower.mg C__law_tower.kp C__law_tower.b .nil pass0 (pa_cons (pv 0) (pa_cons (pv 1) (pa_cons (pv 2) (pa_cons (pe_op op_cat (pv 3) (pe_lst (pa_cons (pv 8) pa_nil))) (pa_cons (pv 4) (pa_cons (pe_op op_sub (pv 5) pe_int) pa_nil))))))))
            (pss_one (ps_ret (pe_lst (pa_cons (pe_tup (pa_cons pe_str (pa_cons (pv 8) (pa_cons (pe_ix (r := rIxL K) ix_list (pe_lst (pa_cons pe_str (pa_cons pe_str pa_nil))) (pe_call C__law_draw.ok (hr.mono (by omega)) (by rfl) C__law_draw.mg C__law_draw.kp C__law_draw.b .nil pass0 (pa_cons (pv 0) (pa_cons (pv 1) (pa_cons pe_int pa_nil)))) (fun _ _ => rfl)) (pa_cons (pv 9) pa_nil))))) pa_nil))))) pss_nil)
          (pss_one (ps_ret (pe_lst (pa_cons (pe_tup (pa_cons pe_str (pa_cons (pv 8) (pa_cons (pe_call C__law_tower.ok (hr.mono (by omega)) (by rfl) C__law_tower.mg C__law_tower.kp C__law_tower.b .nil pass0 (pa_cons (pv 0) (pa_cons (pv 1) (pa_cons (pv 2) (pa_cons (pv 3) (pa_cons (pe_op op_cat (pv 4) (pe_lst (pa_cons (pv 8) pa_nil))) (pa_cons (pe_op op_sub (pv 5) pe_int) pa_nil))))))) pa_nil)))) pa_nil))))))) pss_nil)
        (pss_cons (ps_set (i := 10) sc__law_tower.nd rfl (by first | exact Or.inl rfl | exact Or.inr rfl) (pe_call C__law_deep_test.ok (hr.mono (by omega)) (by rfl) C__law_deep_test.mg C__law_deep_test.kp C__law_deep_test.b .nil pass0 (pa_cons (pv 0) (pa_cons (pv 1) (pa_cons (pv 2) (pa_cons (pv 3) (pa_cons (pv 4) (pa_cons pe_int pa_nil))))))))
        (pss_cons (ps_set (i := 9) sc__law_tower.nd rfl (by first | exact Or.inl rfl | exact Or.inr rfl) (pe_call C__law_tower.ok (hr.mono (by omega)) (by rfl) C__law_tower.mg C__law_tower.kp C__law_tower.b .nil pass0 (pa_cons (pv 0) (pa_cons (pv 1) (pa_cons (pv 2) (pa_cons (pv 3) (pa_cons (pv 4) (pa_cons (pe_op op_sub (pv 5) pe_int) pa_nil))))))))
        (pss_cons (ps_if (pt_cmpR op_eq (pe_op op_mod (pv 6) pe_int) pe_int (nomark _)) (pss_one (ps_ret (pe_lst (pa_cons (pe_tup (pa_cons pe_str (pa_cons (pv 10) (pa_cons (pv 9) (pa_cons (pe_lst pa_nil) pa_nil))))) pa_nil)))) pss_nil)
        (pss_one (ps_ret (pe_lst (pa_cons (pe_tup (pa_cons pe_str (pa_cons (pv 10) (pa_cons (pe_lst pa_nil) (pa_cons (pv 9) pa_nil))))) pa_nil))))))))))), ?_⟩
  refine cut (fun σ H' => sz ≠ 0 ∧ σ = [some (.ref r), some (.ref a), some (.ref wd), some (.ref la), some (.ref ma), some (.int sz), none, none, none, none, none] ∧ H' = H) (fun N hN => ?_) ?_
  · walk_at "rd"
    refine ⟨rfl, ite2 (fun c => ?_) (fun c => hN _ _ ⟨by simpa using c, rfl, rfl⟩)⟩
    have hz : sz = 0 := by simpa using c
    refine ⟨r, a, wd, la, ma, pa, ua, ba, al, pr, ps, L, M, u, rfl, S, A.al, A.pr, fun v1 w1 x1 H1 e1 r1 o1 => ?_⟩
    have S1 := S.ev e1
    refine ⟨r, a, wd, la, ma, pa, ua, ba, al, pr, ps, L, M, u, rfl, S1, A.al, A.pr, fun v2 w2 x2 H2 e2 r2 o2 => ⟨by decide, fun p hp => ?_⟩⟩
    have S2 := S1.ev e2
    have sn := same_new hp (HO.lst [v1, v2])
    have ee := (e1.trans e2).trans (Ev.new hp (HO.lst [v1, v2]))
    refine q p [v1, v2] [.leaf w1 x1, .leaf w2 x2] u _ (ee.mono (by simp)) upd_same ((e1.trans e2).free hp) ?_ (okL_cons.mpr ⟨o1, okL_cons.mpr ⟨o2, okL_nil⟩⟩) ?_ ?_ ?_ (Nat.le_refl _) ((upd_ne (ne_of_none S2.wd.hua hp)).trans S2.wd.hua)
    · unfold encL
      rw [encL_one]
      exact .cons (((r1.ev e2).same sn).toMx) (.one (r2.same sn).toMx)
    · unfold namesL
      rw [namesL_one]
      exact Part.nil A.uu
    · unfold depL
      rw [depL_one]
      show ((max 0 0 : Nat) : Int) ≤ sz
      omega
    · unfold wtL
      rw [wtL_one]
      show ((110 + 110 : Nat) : Int) ≤ _
      omega
  rintro σ H0 ⟨hz, rfl, rfl⟩
  refine cut (fun σ H' => ∃ kd : Int, σ = [some (.ref r), some (.ref a), some (.ref wd), some (.ref la), some (.ref ma), some (.int sz), some (.int kd), none, none, none, none] ∧ 0 ≤ kd ∧ kd < 6 ∧ Ev [a] H0 H') (fun N hN => ?_) ?_
  · walk_at "rd"
    exact ⟨r, a, 6, rfl, S.dr, by omega, fun kd H1 k0 k1 e1 => hN _ _ ⟨kd, rfl, k0, k1, e1⟩⟩
  rintro σ H1 ⟨kd, rfl, k0, k1, e1⟩
  have S1 := S.ev e1
  refine cut (fun σ H' => ∃ bn : Bool, bn = decide (u < 12) ∧ σ = [some (.ref r), some (.ref a), some (.ref wd), some (.ref la), some (.ref ma), some (.int sz), some (.int kd), some (.bl bn), none, none, none] ∧ H' = H1) (fun N hN => ?_) ?_
  · walk_at "rd"
    refine ⟨_, SqL.of S1.wd.hwd, _, rfl, _, rfl, _, SqL.of S1.wd.hua, _, rfl, _, SqL.of S1.wd.hwd, _, rfl, _, rfl, _, .inl (SqL.of S1.wd.hpa), _, rfl, hN _ _ ⟨_, ?_, rfl, rfl⟩⟩
    rw [List.length_map, A.ps.len]
    rw [Bool.eq_iff_iff]
    simp
    omega
  rintro σ H2 ⟨bn, hbn, rfl, rfl⟩
  refine cut (fun σ H' => (L ≠ [] ∨ M ≠ []) ∧ σ = [some (.ref r), some (.ref a), some (.ref wd), some (.ref la), some (.ref ma), some (.int sz), some (.int kd), some (.bl bn), none, none, none] ∧ H' = H2) (fun N hN => ?_) ?_
  · refine ifcut (fun H' => u < 12 ∧ H' = H2) (fun H' => (L ≠ [] ∨ M ≠ []) ∧ H' = H2) (fun X Y hX hY => ?_) ?_ ?_
    · walk_at "rd"
      refine ite2 (fun c => ?_) (fun c => hY _ ⟨?_, rfl⟩)
      · have hu : u < 12 := by rw [hbn] at c; exact of_decide_eq_true c
        refine ⟨_, .inl (SqL.of S1.la), _, .inl (SqL.of S1.ma), rfl, ite2 (fun _ => hX _ ⟨hu, rfl⟩) (fun c2 => ite2 (fun _ => hX _ ⟨hu, rfl⟩) (fun _ => hY _ ⟨?_, rfl⟩))⟩
        by_cases h : L = []
        · right
          intro h2
          rw [h, h2] at c2
          simp at c2
        · exact .inl h
      · rcases hne with h | h | h
        · exact .inl h
        · exact .inr h
        · exfalso
          rw [hbn, h] at c
          simp at c
    · rintro H3 ⟨hu, rfl⟩
      obtain ⟨x, hx⟩ : ∃ x, ps[u]? = some x := ⟨_, List.getElem?_eq_getElem (by rw [A.ps.len]; exact hu)⟩
      have hat : atI (ps.map V.str) (u : Int) = some (.str x) := at_ofN (by rw [List.getElem?_map, hx]; rfl)
      have eU : Ev [a, ua, ba] H3 (upd H3 ua (.lst [.int ((u + 1 : Nat) : Int)])) := Ev.set S1.wd.hua (by simp) _
      have S3 := S1.ev' eU upd_same
      have hok : NameOk x := A.ps.ok x (List.mem_of_getElem? hx)
      refine cut (fun σ H' => σ = [some (.ref r), some (.ref a), some (.ref wd), some (.ref la), some (.ref ma), some (.int sz), some (.int kd), some (.bl bn), some (.str x), none, none] ∧ H' = H3) (fun N2 hN2 => ?_) ?_
      · walk_at "rd"
        exact ⟨_, SqL.of S1.wd.hwd, _, rfl, _, SqL.of S1.wd.hwd, _, rfl, _, rfl, _, SqL.of S1.wd.hua, _, rfl, _, rfl, _, _, rfl, SqL.of S1.wd.hpa, _, hat, hN2 _ _ ⟨rfl, rfl⟩⟩
      rintro σ H7 ⟨rfl, rfl⟩
      refine cut (fun σ H' => σ = [some (.ref r), some (.ref a), some (.ref wd), some (.ref la), some (.ref ma), some (.int sz), some (.int kd), some (.bl bn), some (.str x), none, none] ∧ H' = upd H7 ua (.lst [.int ((u + 1 : Nat) : Int)])) (fun N2 hN2 => ?_) ?_
      · walk_at "rd"
        refine ⟨_, SqL.of S1.wd.hwd, _, rfl, _, rfl, _, SqL.of S1.wd.hua, _, rfl, _, rfl, _, SqL.of S1.wd.hwd, _, rfl, _, rfl, _, S1.wd.hua, 0, rfl, hN2 _ _ ⟨rfl, rfl⟩⟩
      rintro σ H8 ⟨rfl, hH8⟩
      rw [← hH8] at S3 eU
      have ee1 : Ev [a, ua, ba] H0 H8 := (e1.mono (by simp)).trans eU
      have big : ∀ n : Nat, n ≤ 1000 → n ≤ sizeLine := fun n h => Nat.le_of_lt (small1000 h)
      have hll := A.ll
      have hml := A.ml
      refine cut (fun σ H' => σ = [some (.ref r), some (.ref a), some (.ref wd), some (.ref la), some (.ref ma), some (.int sz), some (.int kd), some (.bl bn), some (.str x), none, none] ∧ H' = H8) (fun N2 hN2 => ?_) ?_
      · refine ifcut (fun H' => H' = H8) (fun H' => H' = H8) (fun X Y hX hY => ?_) ?_ ?_
        · walk_at "rd"
          exact ⟨_, .inl (SqL.of S3.la), ite2 (fun _ => ⟨by decide, rfl, ite2 (fun _ => hX _ rfl) (fun _ => ⟨_, .inl (SqL.of S3.ma), rfl, ite2 (fun _ => hX _ rfl) (fun _ => hY _ rfl)⟩)⟩) (fun _ => hY _ rfl)⟩
        · rintro H9 rfl
          walk_at "rd"
          refine ⟨by decide, fun p hp => ⟨_, (upd_ne (ne_of_none S3.la hp)).trans S3.la, _, upd_same, big _ (by rw [List.length_map]; show L.length + 1 ≤ 1000; omega), fun p1 hp1 => ?_⟩⟩
          have eL : Ev [a] H9 (upd (upd H9 p (.lst [.str x])) p1 (.lst (L.map V.str ++ [.str x]))) := (Ev.new hp _).trans (Ev.new hp1 _)
          have S4 := S3.ev eL
          have S4' : Scn (upd (upd H9 p (.lst [.str x])) p1 (.lst (L.map V.str ++ [.str x]))) r a wd p1 ma pa ua ba al pr ps (L ++ [x]) M (u + 1) := ⟨S4.dr, S4.wd, by rw [upd_same, List.map_append]; rfl, S4.ma⟩
          refine ⟨r, a, wd, p1, ma, pa, ua, ba, al, pr, ps, L ++ [x], M, u + 1, sz - 1, rfl, S4', ⟨A.al, A.pr, A.ps, by omega, by rw [List.length_append]; show L.length + 1 ≤ u + 1; omega, by omega⟩, .inl (by simp), by omega, by omega, fun v5 vs5 b5 u5 H5 e5 h5 f5 r5 o5 n5 dd5 w5 l5 hu5 => ⟨by decide, fun p2 hp2 => ?_⟩⟩
          have S5 := S4'.ev' e5 hu5
          have eN : Ev [a] H5 (upd H5 p2 (.lst ([Str.ofString "up", Str.ofString "down"].map V.str))) := Ev.new hp2 _
          have S6 := S5.ev eN
          refine ⟨r, a, 2, rfl, S6.dr, by omega, fun v6 H6 v60 v61 e6 => ?_⟩
          have hp6 := Strs.ev (ys := [Str.ofString "up", Str.ofString "down"]) upd_same e6
          obtain ⟨w0, hw0, hat0⟩ := pick_str [Str.ofString "up", Str.ofString "down"] v60 v61
          refine ⟨_, v6, rfl, SqL.of hp6, _, hat0, by decide, fun p3 hp3 => ⟨by decide, fun p4 hp4 => ?_⟩⟩
          have sn := (same_new hp3 (HO.tup [.str (Str.ofString "for"), .str x, .str w0, .ref v5])).trans (same_new hp4 (HO.lst [.ref p3]))
          have ee0 : Ev [a, ua, ba] H0 H6 := ((ee1.trans (eL.mono (by simp))).trans e5).trans ((eN.trans e6).mono (by simp))
          have S7 := S6.ev e6
          have d4 : Dom H0 (upd (upd H9 p (.lst [.str x])) p1 (.lst (L.map V.str ++ [.str x]))) := ee1.dom.trans eL.dom
          refine q p4 _ [.loop x w0 b5] u5 _ (ee0.trans (Ev.of_same sn)) upd_same ((ee0.dom.trans Dom.upd) _ hp4) ?_ (okL_cons.mpr ⟨⟨hok, ?_, o5⟩, okL_nil⟩) ?_ ?_ ?_ (by show 1 ≤ 2; omega) (sn _ _ S7.wd.hua)
          · rw [encL_one]
            refine .one (Rep.seqIff.mpr ⟨p3, _, rfl, .inl (mx_tup.mpr ((upd_ne (ne_of_none upd_same hp4)).trans upd_same)), .cons (Rep.strIff.mpr rfl) (.cons (Rep.strIff.mpr rfl) (.cons (Rep.strIff.mpr rfl) (.one ?_)))⟩)
            refine Rep.seqIff.mpr ⟨v5, vs5, rfl, .inr ⟨rfl, mx_lst.mpr ⟨?_, d4 _ f5⟩⟩, r5.mx d4 ((eN.trans e6).kp.trans (kp_same sn))⟩
            exact ((eN.trans e6).kp.trans (kp_same sn)).l _ _ r5.items h5
          · rcases List.mem_cons.mp hw0 with h | h
            · exact .inl h
            · exact .inr (List.mem_singleton.mp h)
          · rw [namesL_one]
            exact n5.one hx
          · rw [depL_one]
            show ((depL b5 + 1 : Nat) : Int) ≤ sz
            omega
          · rw [wtL_one]
            show ((wtL b5 + 200 : Nat) : Int) ≤ _
            omega
        · rintro H9 rfl
          exact hN2 _ _ ⟨rfl, rfl⟩
      rintro σ H9 ⟨rfl, rfl⟩
      walk_at "rd"
      refine ⟨by decide, fun p hp => ⟨_, (upd_ne (ne_of_none S3.ma hp)).trans S3.ma, _, upd_same, big _ (by rw [List.length_map]; show M.length + 1 ≤ 1000; omega), fun p1 hp1 => ?_⟩⟩
      have eL : Ev [a] H9 (upd (upd H9 p (.lst [.str x])) p1 (.lst (M.map V.str ++ [.str x]))) := (Ev.new hp _).trans (Ev.new hp1 _)
      have S4 := S3.ev eL
      have S4' : Scn (upd (upd H9 p (.lst [.str x])) p1 (.lst (M.map V.str ++ [.str x]))) r a wd la p1 pa ua ba al pr ps L (M ++ [x]) (u + 1) := ⟨S4.dr, S4.wd, S4.la, by rw [upd_same, List.map_append]; rfl⟩
      refine ⟨r, a, wd, la, p1, pa, ua, ba, al, pr, ps, L, M ++ [x], u + 1, sz - 1, rfl, S4', ⟨A.al, A.pr, A.ps, by omega, by omega, by rw [List.length_append]; show M.length + 1 ≤ u + 1; omega⟩, .inr (.inl (by simp)), by omega, by omega, fun v5 vs5 b5 u5 H5 e5 h5 f5 r5 o5 n5 dd5 w5 l5 hu5 => ⟨by decide, fun p3 hp3 => ⟨by decide, fun p4 hp4 => ?_⟩⟩⟩
      have sn := (same_new hp3 (HO.tup [.str (Str.ofString "mark"), .str x, .ref v5])).trans (same_new hp4 (HO.lst [.ref p3]))
      have ee0 : Ev [a, ua, ba] H0 H5 := (ee1.trans (eL.mono (by simp))).trans e5
      have d4 : Dom H0 (upd (upd H9 p (.lst [.str x])) p1 (.lst (M.map V.str ++ [.str x]))) := ee1.dom.trans eL.dom
      refine q p4 _ [.mark x b5] u5 _ (ee0.trans (Ev.of_same sn)) upd_same ((ee0.dom.trans Dom.upd) _ hp4) ?_ (okL_cons.mpr ⟨⟨hok, o5⟩, okL_nil⟩) ?_ ?_ ?_ (by show 1 ≤ 2; omega) (sn _ _ hu5)
      · rw [encL_one]
        refine .one (Rep.seqIff.mpr ⟨p3, _, rfl, .inl (mx_tup.mpr ((upd_ne (ne_of_none upd_same hp4)).trans upd_same)), .cons (Rep.strIff.mpr rfl) (.cons (Rep.strIff.mpr rfl) (.one ?_))⟩)
        exact Rep.seqIff.mpr ⟨v5, vs5, rfl, .inr ⟨rfl, mx_lst.mpr ⟨sn _ _ h5, d4 _ f5⟩⟩, r5.mx d4 (kp_same sn)⟩
      · rw [namesL_one]
        exact n5.one hx
      · rw [depL_one]
        show ((depL b5 + 1 : Nat) : Int) ≤ sz
        omega
      · rw [wtL_one]
        show ((wtL b5 + 200 : Nat) : Int) ≤ _
        omega
    · rintro H3 ⟨hne2, rfl⟩
      exact hN _ _ ⟨hne2, rfl, rfl⟩
  rintro σ H3 ⟨hne2, rfl, rfl⟩
  have big : ∀ n : Nat, n ≤ 1000 → n ≤ sizeLine := fun n h => Nat.le_of_lt (small1000 h)
  walk_at "rd"
  refine ⟨r, a, wd, la, ma, pa, ua, ba, al, pr, ps, L, M, u, 1, rfl, S1, A.al, hne2, by omega, by omega, fun vt t H4 e4 r4 o4 d4 => ?_⟩
  have S4 := S1.ev e4
  refine ⟨r, a, wd, la, ma, pa, ua, ba, al, pr, ps, L, M, u, sz - 1, rfl, S4, A, by rcases hne2 with h | h; exact .inl h; exact .inr (.inl h), by omega, by omega, fun v5 vs5 b5 u5 H5 e5 h5 f5 r5 o5 n5 dd5 w5 l5 hu5 => ⟨by omega, rfl, ite2 (fun _ => ⟨by decide, fun p hp => ⟨by decide, fun p1 hp1 => ⟨by decide, fun p2 hp2 => ?_⟩⟩⟩) (fun _ => ⟨by decide, fun p hp => ⟨by decide, fun p1 hp1 => ⟨by decide, fun p2 hp2 => ?_⟩⟩⟩)⟩⟩
  all_goals
    have sn := (same_new hp (HO.lst [])).trans ((same_new hp1 (HO.tup _)).trans (same_new hp2 (HO.lst [.ref p1])))
    have e14 : Ev [a, ua, ba] H0 H4 := (e1.trans e4).mono (by simp)
    have d4' : Dom H0 H4 := e14.dom
    have d5' : Dom H0 H5 := d4'.trans e5.dom
    have hpe := (same_new hp1 (HO.tup _)).trans (same_new hp2 (HO.lst [.ref p1])) p _ upd_same
    have hp1d := d5'.trans Dom.upd _ hp1
    have hp2d := (d5'.trans Dom.upd).trans Dom.upd _ hp2
  · refine q p2 _ [.cond t b5 []] u5 _ ((e14.trans e5).trans (Ev.of_same sn)) upd_same hp2d ?_ (okL_cons.mpr ⟨⟨o4, by omega, o5, okL_nil⟩, okL_nil⟩) ?_ ?_ ?_ (by show 1 ≤ 2; omega) (sn _ _ hu5)
    · rw [encL_one]
      refine .one (Rep.seqIff.mpr ⟨p1, _, rfl, .inl (mx_tup.mpr ((upd_ne (ne_of_none upd_same hp2)).trans upd_same)), .cons (Rep.strIff.mpr rfl) (.cons ((r4.ev e5).same sn).toMx (.cons ?_ (.one ?_)))⟩)
      · exact Rep.seqIff.mpr ⟨v5, vs5, rfl, .inr ⟨rfl, mx_lst.mpr ⟨sn _ _ h5, d4' _ f5⟩⟩, r5.mx d4' (kp_same sn)⟩
      · refine Rep.seqIff.mpr ⟨p, [], rfl, .inr ⟨rfl, mx_lst.mpr ⟨hpe, d5' _ hp⟩⟩, ?_⟩
        unfold encL
        exact RepL.nil
    · rw [namesL_one]
      show Part ps u u5 (namesL b5 ++ namesL [])
      have e : namesL [] = [] := by unfold namesL; rfl
      rw [e, List.append_nil]
      exact n5
    · rw [depL_one]
      have e : depL [] = 0 := by unfold depL; rfl
      show ((max (depL b5) (depL []) + 1 : Nat) : Int) ≤ sz
      rw [e]
      omega
    · rw [wtL_one]
      have e : wtL [] = 0 := by unfold wtL; rfl
      show ((wtL b5 + wtL [] + 1100 : Nat) : Int) ≤ _
      rw [e]
      omega
  · refine q p2 _ [.cond t [] b5] u5 _ ((e14.trans e5).trans (Ev.of_same sn)) upd_same hp2d ?_ (okL_cons.mpr ⟨⟨o4, by omega, okL_nil, o5⟩, okL_nil⟩) ?_ ?_ ?_ (by show 1 ≤ 2; omega) (sn _ _ hu5)
    · rw [encL_one]
      refine .one (Rep.seqIff.mpr ⟨p1, _, rfl, .inl (mx_tup.mpr ((upd_ne (ne_of_none upd_same hp2)).trans upd_same)), .cons (Rep.strIff.mpr rfl) (.cons ((r4.ev e5).same sn).toMx (.cons ?_ (.one ?_)))⟩)
      · refine Rep.seqIff.mpr ⟨p, [], rfl, .inr ⟨rfl, mx_lst.mpr ⟨hpe, d5' _ hp⟩⟩, ?_⟩
        unfold encL
        exact RepL.nil
      · exact Rep.seqIff.mpr ⟨v5, vs5, rfl, .inr ⟨rfl, mx_lst.mpr ⟨sn _ _ h5, d4' _ f5⟩⟩, r5.mx d4' (kp_same sn)⟩
    · rw [namesL_one]
      show Part ps u u5 (namesL [] ++ namesL b5)
      have e : namesL [] = [] := by unfold namesL; rfl
      rw [e, List.nil_append]
      exact n5
    · rw [depL_one]
      have e : depL [] = 0 := by unfold depL; rfl
      show ((max (depL []) (depL b5) + 1 : Nat) : Int) ≤ sz
      rw [e]
      omega
    · rw [wtL_one]
      have e : wtL [] = 0 := by unfold wtL; rfl
      show ((wtL [] + wtL b5 + 1100 : Nat) : Int) ≤ _
      rw [e]
      omega
theorem all_tower (F : Fun K "_law_tower" "_law_tower" s__law_tower f fd) (T : Bt mg) (C__law_draw : Cl P w K mg base "_law_draw" 1 ["row", "at", "size"] spDraw) (C__law_deep_test : Cl P w K mg base "_law_deep_test" 8 ["row", "at", "world", "loops", "marks", "deep"] (spDeep 5))
    (C__law_leaf : Cl P w K mg base "_law_leaf" 3 ["row", "at", "world", "loops", "marks"] spLeaf) (b : Binds K fd ["row", "at", "world", "loops", "marks", "size"] []) (mgf : mg "_law_tower" = some (.ref f)) : ∀ m : Nat, FnOk P w K mg base CX0 (m + 8) f fd ["row", "at", "world", "loops", "marks", "size"] (spTower m)
  | 0 => FnOk.none fun vs H Q E h => by
    obtain ⟨r, a, wd, la, ma, pa, ua, ba, al, pr, ps, L, M, u, sz, rfl, S, A, hne, d0, d1, q⟩ := h
    omega
  | m + 1 => ok_tower F T C__law_draw C__law_deep_test C__law_leaf ⟨f, fd, all_tower F T C__law_draw C__law_deep_test C__law_leaf b mgf m, b, F.kp, mgf⟩
end
end TW
/-! E12 -/
set_option Elab.async false
set_option linter.all false
set_option maxRecDepth 100000
set_option maxHeartbeats 4000000
namespace TW
open PySem L2 TL
local macro_rules | `(tactic| walk_at "rd") => `(tactic| simp only [tSeq, tAsg, tOp, tUn, tVar, tCB, tCons, tNil, tRet, tDrop, gName, gSub, gTup, gCons, gNil, rI, rI0, rU, rIxL, rIxT, rIxS, rSetL, tC, L2.start, cxOf, tIfS, tIf, tTest, tB, tAnd, tOr, tNot, tAndV, tOrV, tNotV, tChain, tTup, tLst, tCall, tNext, tNever,
  rEq, rNe, tBM, tBM0, rCat, rRep, rIn, tSl, rSlL, rSlT, rSlS, rAll, rAny, rSortedS, rAppend, rPop, rExtend, tyV, tFld, tM1, tFmt, tJs, tRev, tKGet, rRvL, rRvT, rRvS, rExtendT, rLstS, rRepS, tNoPart, tPart, tYes, StX.tStar, wipe, rIx,
  List.map, List.length, List.replicate, List.append, List.nil_append, List.cons_append, List.append_nil, List.set, Nat.zero_add, Nat.add_zero, Nat.reduceAdd, Nat.reduceSub, List.getElem?_cons_zero, List.getElem?_cons_succ, List.length_cons, List.length_nil, List.set_cons_zero, List.set_cons_succ, List.getElem?_nil, Option.some.injEq, V.ref.injEq, V.int.injEq, V.str.injEq, V.bl.injEq, List.cons.injEq, and_true, true_and, exists_eq_left, exists_eq_left', exists_eq', exists_eq, exists_and_left, exists_const, reduceCtorEq, false_or, or_false, true_or, or_true, false_and, and_false, and_assoc, if_true, if_false, Bool.false_eq_true, Bool.true_eq_false])
local macro_rules | `(tactic| walk_at "rdd") => `(tactic| simp only [tSeq, tAsg, tOp, tUn, tVar, tCB, tCons, tNil, tRet, tDrop, gName, gSub, gTup, gCons, gNil, rI, rI0, rU, rIxL, rIxT, rIxS, rSetL, tC, L2.start, cxOf, tIfS, tIf, tTest, tB, tAnd, tOr, tNot, tAndV, tOrV, tNotV, tChain, tTup, tLst, tCall, tNext, tNever,
  rEq, rNe, tBM, tBM0, rCat, rRep, rIn, tSl, rSlL, rSlT, rSlS, rAll, rAny, rSortedS, rAppend, rPop, rExtend, tyV, tFld, tM1, tFmt, tJs, tRev, tKGet, rRvL, rRvT, rRvS, rExtendT, rLstS, rRepS, tNoPart, tPart, tYes, StX.tStar, wipe, rIx, tFor, tWhile, tLc, iList, iTup, iSeq, iStr, iRng1, iRng2, iEnumS, iZipS,
  List.map, List.length, List.replicate, List.append, List.nil_append, List.cons_append, List.append_nil, List.set, Nat.zero_add, Nat.add_zero, Nat.reduceAdd, Nat.reduceSub, List.getElem?_cons_zero, List.getElem?_cons_succ, List.length_cons, List.length_nil, List.set_cons_zero, List.set_cons_succ, List.getElem?_nil, Option.some.injEq, V.ref.injEq, V.int.injEq, V.str.injEq, V.bl.injEq, List.cons.injEq, and_true, true_and, exists_eq_left, exists_eq_left', exists_eq', exists_eq, exists_and_left, exists_const, reduceCtorEq, false_or, or_false, true_or, or_true, false_and, and_false, and_assoc, if_true, if_false, Bool.false_eq_true, Bool.true_eq_false])
section
variable {P : Program} {w : World} {K : PySem.W.Frag} {mg : Str → Option Value} {base : Heap} {f g : Addr} {fd gd : FuncData}
/-- what a drawn program is -/
structure Drawn (al pr : Str) (b : List Stm) : Prop where
  hal : Alph al
  hpr : Alph pr
  ok : okL al pr [] [] b
  nd : (namesL b).Nodup
  dep : depL b ≤ 30
  wt : wtL b ≤ 10000000
  len : b.length ≤ 100
theorem part_nodup {ps : List Str} {u u' : Nat} {l : List Str} (A : PoolOk ps) (h : Part ps u u' l) : l.Nodup := by
  obtain ⟨_, _, rfl⟩ := h
  exact ((List.take_sublist _ _).trans (List.drop_sublist _ _)).nodup A.nd
def spProg : Sp := fun vs H Q _ => ∃ (r a : Addr), vs = [.ref r, .ref a, .int 5] ∧ Dr H r a ∧ ∀ (p bp : Addr) (al pr : Str) (vs : List V) (b : List Stm) (H' : Hp), Ev [a] H H' → H' p = some (.lst [.str al, .str pr, .ref bp]) → H p = none → H' bp = some (.lst vs) → H bp = none → RepL false (Mx H H') vs (encL b) → Drawn al pr b → Q (.ref p) H'
theorem Ev.less {l : List Addr} {a : Addr} {H H' : Hp} (e : Ev (a :: l) H H') (h : ∀ b ∈ l, H b = none) : Ev [a] H H' := fun b o q => by
  rcases e b o q with k | ⟨hm, r⟩
  · exact .inl k
  · rcases List.mem_cons.mp hm with rfl | hm
    · exact .inr ⟨by simp, r⟩
    · rw [h b hm] at q
      cases q
/-- the list of statements under way: it stands at B and is no part of its statements -/
structure Bd (H HB H' : Hp) (a ua ba : Addr) (al pr : Str) (ps : List Str) (B : Addr) (b : List Stm) (u' dp wt ln : Nat) : Prop where
  rep : ∃ vs, H' B = some (.lst vs) ∧ RepL false (Mx HB H') vs (encL b)
  ok : okL al pr [] [] b
  part : Part ps 0 u' (namesL b)
  dep : depL b ≤ dp
  wtb : wtL b ≤ wt
  len : b.length ≤ ln
  ev : Ev [a, ua, ba] H H'
  dm : Dom HB H'
  us : H' ua = some (.lst [.int (u' : Int)])
  hB : HB B ≠ none
  d0 : Dom H HB
  fB : H B = none
theorem okL_rep {al pr : Str} {L M : List Str} {w x : Str} (h : leafOk al pr L M w x) : ∀ {m : Nat}, okL al pr L M (List.replicate m (.leaf w x))
  | 0 => okL_nil
  | m + 1 => okL_cons.mpr ⟨by unfold Stm.ok; exact h, okL_rep h⟩
theorem namesL_rep {w x : Str} : ∀ {m : Nat}, namesL (List.replicate m (.leaf w x)) = []
  | 0 => by unfold List.replicate namesL; rfl
  | m + 1 => by
    show Stm.names (.leaf w x) ++ namesL (List.replicate m (.leaf w x)) = []
    rw [namesL_rep]
    unfold Stm.names
    rfl
theorem depL_rep {w x : Str} : ∀ {m : Nat}, depL (List.replicate m (.leaf w x)) = 0
  | 0 => by unfold List.replicate depL; rfl
  | m + 1 => by
    show max (Stm.dep (.leaf w x)) (depL (List.replicate m (.leaf w x))) = 0
    rw [depL_rep]
    unfold Stm.dep
    rfl
theorem wtL_rep {w x : Str} : ∀ {m : Nat}, wtL (List.replicate m (.leaf w x)) = m * 110
  | 0 => by unfold List.replicate wtL; rfl
  | m + 1 => by
    show Stm.wt (.leaf w x) + wtL (List.replicate m (.leaf w x)) = (m + 1) * 110
    rw [wtL_rep]
    have : Stm.wt (.leaf w x) = 110 := by unfold Stm.wt; rfl
    omega
theorem RepL.reps {q : Bool} {H : Hp} {v : V} {w x : Str} (h : Rep q H v (Stm.leaf w x).enc) : ∀ {m : Nat}, RepL q H (List.replicate m v) (encL (List.replicate m (.leaf w x)))
  | 0 => by unfold List.replicate encL; exact RepL.nil
  | m + 1 => by
    show RepL q H (v :: List.replicate m v) ((Stm.leaf w x).enc :: encL (List.replicate m (.leaf w x)))
    exact .cons h (RepL.reps h)
theorem ok_prog (F : Fun K "_law_nest_program" "_law_nest_program" s__law_nest_program f fd) (T : Bt mg) (C__law_draw : Cl P w K mg base "_law_draw" 1 ["row", "at", "size"] spDraw) (C__law_wide : Cl P w K mg base "_law_wide" 2 ["row", "at"] spWide) (C__law_wide_prints : Cl P w K mg base "_law_wide_prints" 3 ["row", "at", "alphabet"] spPrints)
    (C__law_pool : Cl P w K mg base "_law_pool" 2 ["row", "at"] spPool) (C__law_leaf : Cl P w K mg base "_law_leaf" 3 ["row", "at", "world", "loops", "marks"] spLeaf) (C__law_nested : Cl P w K mg base "_law_nested" 20 ["row", "at", "world", "loops", "marks", "deep", "top"] (spNested 6))
    (C__law_nest : Cl P w K mg base "_law_nest" 21 ["row", "at", "world", "loops", "marks", "deep", "top"] (spNest 6)) (C__law_tower : Cl P w K mg base "_law_tower" 33 ["row", "at", "world", "loops", "marks", "size"] (spTower 25)) :
    FnOk P w K mg base CX0 34 f fd ["row", "at", "top"] spProg := by
  refine F.ok sc__law_nest_program (fun vs H Q E h => ?_) (fun cdv A outer s H vs Q E hr h => ?_)
  · obtain ⟨r, a, rfl, _⟩ := h
    rfl
  obtain ⟨r, a, rfl, hd, q⟩ := h
  refine ⟨_, (pss_cons (ps_set (i := 3) sc__law_nest_program.nd rfl (by first | exact Or.inl rfl | exact Or.inr rfl) (pe_call C__law_wide.ok (hr.mono (by omega)) (by rfl) C__law_wide.mg C__law_wide.kp C__law_wide.b .nil pass0 (pa_cons (pv 0) (pa_cons (pv 1) pa_nil))))
        (pss_cons (ps_set (i := 4) sc__law_nest_program.nd rfl (by first | exact Or.inl rfl | exact Or.inr rfl) (pe_lst (pa_cons (pv 3) (pa_cons (pe_call C__law_wide_prints.ok (hr.mono (by omega)) (by rfl) C__law_wide_prints.mg C__law_wide_prints.kp C__law_wide_prints.b .nil pass0 (pa_cons (pv 0) (pa_cons (pv 1) (pa_cons (pv 3) pa_nil)))) (pa_cons (pe_call C__law_pool.ok (hr.mono (by omega)) (by rfl) C__law_pool.mg C__law_pool.kp C__law_pool.b .nil pass0 (pa_cons (pv 0) (pa_cons (pv 1) pa_nil))) (pa_cons (pe_lst (pa_cons pe_int pa_nil)) (pa_cons (pe_lst (pa_cons pe_int pa_nil)) pa_nil)))))))
        (pss_cons (ps_set (i := 5) sc__law_nest_program.nd rfl (by first | exact Or.inl rfl | exact Or.inr rfl) (pe_call C__law_draw.ok (hr.mono (by omega)) (by rfl) C__law_draw.mg C__law_draw.kp C__law_draw.b .nil pass0 (pa_cons (pv 0) (pa_cons (pv 1) (pa_cons pe_int pa_nil)))))
        (pss_cons (ps_if (pt_cmpR op_eq (pv 5) pe_int (nomark _)) (pss_one (ps_ret (pe_lst (pa_cons (pe_ix (r := rIxL K) ix_list (pv 4) pe_int (fun _ _ => rfl)) (pa_cons (pe_ix (r := rIxL K) ix_list (pv 4) pe_int (fun _ _ => rfl)) (pa_cons (pe_lst pa_nil) pa_nil)))))) pss_nil)
        (pss_cons (ps_if (pt_cmpR op_gt (pv 5) pe_int (nomark _)) (pss_one (ps_ret (pe_lst (pa_cons (pe_ix (r := rIxL K) ix_list (pv 4) pe_int (fun _ _ => rfl)) (pa_cons (pe_ix (r := rIxL K) ix_list (pv 4) pe_int (fun _ _ => rfl)) (pa_cons (pe_call C__law_tower.ok (hr.mono (by omega)) (by rfl) C__law_tower.mg C__law_tower.kp C__law_tower.b .nil pass0 (pa_cons (pv 0) (pa_cons (pv 1) (pa_cons (pv 4) (pa_cons (pe_lst pa_nil) (pa_cons (pe_lst pa_nil) (pa_cons (pe_op op_add pe_int (pe_call C__law_draw.ok (hr.mono (by omega)) (by rfl) C__law_draw.mg C__law_draw.kp C__law_draw.b .nil pass0 (pa_cons (pv 0) (pa_cons (pv 1) (pa_cons pe_int pa_nil))))) pa_nil))))))) pa_nil)))))) pss_nil)
        (pss_cons (ps_set (i := 6) sc__law_nest_program.nd rfl (by first | exact Or.inl rfl | exact Or.inr rfl) (pe_ix (r := rIxL K) ix_list (pe_lst (pa_cons pe_int (pa_cons pe_int (pa_cons pe_int (pa_cons pe_int pa_nil))))) (pe_call C__law_draw.ok (hr.mono (by omega)) (by rfl) C__law_draw.mg C__law_draw.kp C__law_draw.b .nil pass0 (pa_cons (pv 0) (pa_cons (pv 1) (pa_cons pe_int pa_nil)))) (fun _ _ => rfl)))
        (pss_cons (ps_setLc (i := 7) (own := [("k", 8)]) (g := gName 8) (by rfl) sc__law_nest_program.nd rfl rfl (sw_true rfl rfl rfl (by decide +kernel)) (pi_range1 (by rfl) T.b_range (pa_cons (pv 6) pa_nil)) (blkOk_by (N := ["row", "at", "top", "alphabet", "world", "shape", "many", "body", "k", "name"]) (sc := defScope s__law_nest_program) (by decide +kernel)) (fun _ _ _ _ _ => pg_name (i := 8) sc__law_nest_program.nd rfl (by first | exact Or.inl rfl | exact Or.inr rfl)) (fun _ _ _ _ _ => pts_nil) (fun _ _ _ _ _ => (pe_call C__law_nested.ok (hr.mono (by omega)) (by rfl) C__law_nested.mg C__law_nested.kp C__law_nested.b .nil pass0 (pa_cons (pv 0) (pa_cons (pv 1) (pa_cons (pv 4) (pa_cons (pe_lst pa_nil) (pa_cons (pe_lst pa_nil) (pa_cons pe_int (pa_cons (pv 2) pa_nil))))))))))
        (pss_cons (ps_if (pt_cmpR op_lt (pe_ix (r := rIxL K) ix_list (pe_ix (r := rIxL K) ix_list (pv 4) pe_int (fun _ _ => rfl)) pe_int (fun _ _ => rfl)) pe_int (nomark _)) (pss_cons (ps_set (i := 9) sc__law_nest_program.nd rfl (by first | exact Or.inl rfl | exact Or.inr rfl) (pe_ix (r := rIxL K) ix_list (pe_ix (r := rIxL K) ix_list (pv 4) pe_int (fun _ _ => rfl)) (pe_ix (r := rIxL K) ix_list (pe_ix (r := rIxL K) ix_list (pv 4) pe_int (fun _ _ => rfl)) pe_int (fun _ _ => rfl)) (fun _ _ => rfl)))
          (pss_cons (ps_asg (pe_op op_add (pe_ix (r := rIxL K) ix_list (pe_ix (r := rIxL K) ix_list (pv 4) pe_int (fun _ _ => rfl)) pe_int (fun _ _ => rfl)) pe_int) (pg_sub (pe_ix (r := rIxL K) ix_list (pv 4) pe_int (fun _ _ => rfl)) pe_int set_list))
          (pss_one (ps_expr (pe_bm PySem.F.plainAttrs_list PySem.F.slot_list_append PySem.F.type_list_append mt_append (pv 7) (pa_cons (pe_tup (pa_cons pe_str (pa_cons (pv 9) (pa_cons pe_str (pa_cons (pe_call C__law_nest.ok (hr.mono (by omega)) (by rfl) C__law_nest.mg C__law_nest.kp C__law_nest.b .nil pass0 (pa_cons (pv 0) (pa_cons (pv 1) (pa_cons (pv 4) (pa_cons (pe_lst (pa_cons (pv 9) pa_nil)) (pa_cons (pe_lst pa_nil) (pa_cons pe_int (pa_cons (pv 2) pa_nil)))))))) pa_nil))))) pa_nil)))))) pss_nil)
        (pss_cons (ps_if (pt_cmpR op_gt (pv 5) pe_int (nomark _)) (pss_one (ps_set (i := 7) sc__law_nest_program.nd rfl (by first | exact Or.inl rfl | exact Or.inr rfl) (pe_op op_cat (pe_op op_rep (pe_lst (pa_cons (pe_call C__law_leaf.ok (hr.mono (by omega)) (by rfl) C__law_leaf.mg C__law_leaf.kp C__law_leaf.b .nil pass0 (pa_cons (pv 0) (pa_cons (pv 1) (pa_cons (pv 4) (pa_cons (pe_lst pa_nil) (pa_cons (pe_lst pa_nil) pa_nil)))))) pa_nil)) (pe_op op_add pe_int (pe_op op_mul pe_int (pe_call C__law_draw.ok (hr.mono (by omega)) (by rfl) C__law_draw.mg C__law_draw.kp C__law_draw.b .nil pass0 (pa_cons (pv 0) (pa_cons (pv 1) (pa_cons pe_int pa_nil))))))) (pv 7)))) pss_nil)
        (pss_one (ps_ret (pe_lst (pa_cons (pe_ix (r := rIxL K) ix_list (pv 4) pe_int (fun _ _ => rfl)) (pa_cons (pe_ix (r := rIxL K) ix_list (pv 4) pe_int (fun _ _ => rfl)) (pa_cons (pv 7) pa_nil))))))))))))))), ?_⟩
  refine cut (fun σ H' => ∃ al : Str, σ = [some (.ref r), some (.ref a), some (.int 5), some (.str al), none, none, none, none, none, none] ∧ Alph al ∧ Ev [a] H H') (fun N hN => ?_) ?_
  · walk_at "rd"
    exact ⟨r, a, rfl, hd, fun z H1 e1 hz => hN _ _ ⟨z, rfl, hz, e1⟩⟩
  rintro σ H1 ⟨al, rfl, hal, e1⟩
  refine cut (fun σ H' => ∃ (wd pa ua ba : Addr) (pr : Str) (ps : List Str), σ = [some (.ref r), some (.ref a), some (.int 5), some (.str al), some (.ref wd), none, none, none, none, none] ∧ Wd H' a wd pa ua ba al pr ps 0 ∧ Alph pr ∧ PoolOk ps ∧ H ua = none ∧ H ba = none ∧ Ev [a] H H') (fun N hN => ?_) ?_
  · walk_at "rd"
    refine ⟨r, a, al, rfl, hd.ev e1, hal, fun pr H2 e2 hpr => ⟨r, a, rfl, hd.ev (e1.trans e2), fun pa ps H3 e3 hpa hps => ⟨by decide, fun ua hu => ⟨by decide, fun ba hb => ⟨by decide, fun wd hw => ?_⟩⟩⟩⟩⟩
    have e4 := (e1.trans e2).trans e3
    have eu := e4.trans (Ev.new hu (.lst [.int 0]))
    have eb := eu.trans (Ev.new hb (.lst [.int 14]))
    have fu := e4.free hu
    have fb := eu.free hb
    obtain ⟨_, j, hj⟩ := hd
    have hnu : ua ≠ a := fun z => by rw [z, hj] at fu; cases fu
    have hbu : ba ≠ ua := fun z => by rw [z, upd_same] at hb; cases hb
    refine hN _ _ ⟨wd, pa, ua, ba, pr, ps, rfl, ⟨upd_same, ?_, ?_, ⟨14, ?_⟩, hnu, hbu.symm⟩, hpr, hps, fu, fb, eb.trans (Ev.new hw _)⟩
    · exact Strs.ev hpa (((Ev.new hu (.lst [.int 0])).trans (Ev.new hb (.lst [.int 14]))).trans (Ev.new hw _) : Ev [a] _ _)
    · exact (same_new hw _) _ _ ((upd_ne hbu.symm).trans upd_same)
    · exact (same_new hw _) _ _ upd_same
  rintro σ H2 ⟨wd, pa, ua, ba, pr, ps, rfl, hW, hpr, hps, fu, fb, e2⟩
  have hd2 := hd.ev e2
  refine cut (fun σ H' => ∃ sh : Int, σ = [some (.ref r), some (.ref a), some (.int 5), some (.str al), some (.ref wd), some (.int sh), none, none, none, none] ∧ 0 ≤ sh ∧ sh < 20 ∧ Ev [a] H2 H') (fun N hN => ?_) ?_
  · walk_at "rd"
    exact ⟨r, a, 20, rfl, hd2, by omega, fun v H3 v0 v1 e3 => hN _ _ ⟨v, rfl, v0, v1, e3⟩⟩
  rintro σ H3 ⟨sh, rfl, s0, s1, e3⟩
  have e3' := e2.trans e3
  have hW3 := hW.ev e3 (by have := hW.ne1; simpa using this)
  refine cut (fun σ H' => σ = [some (.ref r), some (.ref a), some (.int 5), some (.str al), some (.ref wd), some (.int sh), none, none, none, none] ∧ H' = H3) (fun N hN => ?_) ?_
  · walk_at "rd"
    refine ⟨rfl, ite2 (fun _ => ⟨_, SqL.of hW3.hwd, _, rfl, _, SqL.of hW3.hwd, _, rfl, by decide, fun p hp => ⟨by decide, fun p1 hp1 => ?_⟩⟩) (fun _ => hN _ _ ⟨rfl, rfl⟩)⟩
    refine q p1 p al pr [] [] _ ((e3'.trans (Ev.new hp _)).trans (Ev.new hp1 _)) upd_same ((e3'.trans (Ev.new hp (.lst []))).free hp1) ((upd_ne (ne_of_none upd_same hp1)).trans upd_same) (e3'.free hp) (by unfold encL; exact RepL.nil) ⟨hal, hpr, okL_nil, by unfold namesL; exact List.nodup_nil, by unfold depL; omega, by unfold wtL; omega, by show 0 ≤ 100; omega⟩
  rintro σ H4 ⟨rfl, rfl⟩
  refine cut (fun σ H' => σ = [some (.ref r), some (.ref a), some (.int 5), some (.str al), some (.ref wd), some (.int sh), none, none, none, none] ∧ H' = H4) (fun N hN => ?_) ?_
  · walk_at "rd"
    refine ite2 (fun _ => ⟨_, SqL.of hW3.hwd, _, rfl, _, SqL.of hW3.hwd, _, rfl, by decide, fun p hp => ⟨by decide, fun p1 hp1 => ?_⟩⟩) (fun _ => hN _ _ ⟨rfl, rfl⟩)
    have eL : Ev [a] H4 (upd (upd H4 p (.lst [])) p1 (.lst [])) := (Ev.new hp _).trans (Ev.new hp1 _)
    refine ⟨r, a, 24, rfl, (hd.ev e3').ev eL, by omega, fun v H6 v0 v1 e6 => ⟨v, rfl, ?_⟩⟩
    have eL6 := eL.trans e6
    have hW6 := hW3.ev eL6 (by have := hW.ne1; simpa using this)
    have S6 : Scn H6 r a wd p p1 pa ua ba al pr ps [] [] 0 := ⟨hd.ev (e3'.trans eL6), hW6, e6.obj ((upd_ne (ne_of_none upd_same hp1)).trans upd_same) (fun i => by simp), e6.obj upd_same (fun i => by simp)⟩
    refine ⟨r, a, wd, p, p1, pa, ua, ba, al, pr, ps, [], [], 0, 1 + v, rfl, S6, ⟨hal, hpr, hps, by omega, Nat.le_refl _, Nat.le_refl _⟩, .inr (.inr rfl), by omega, by omega, fun v5 vs5 b5 u5 H5 e5 h5 f5 r5 o5 n5 dd5 w5 l5 hu5 => ⟨by decide, fun p2 hp2 => ?_⟩⟩
    have ee : Ev [a, ua, ba] H (upd H5 p2 (.lst [.str al, .str pr, .ref v5])) := (((e3'.trans eL6).mono (by simp)).trans e5).trans (Ev.new hp2 _)
    have ee2 := ee.less (l := [ua, ba]) (fun b hb => by
      rcases List.mem_cons.mp hb with rfl | hb
      · exact fu
      · rw [List.mem_singleton.mp hb]
        exact fb)
    have dm6 := (e3'.trans eL6).dom
    refine q p2 v5 al pr vs5 b5 _ ee2 upd_same ((dm6.trans e5.dom) _ hp2) ((upd_ne (ne_of_none h5 hp2)).trans h5) (dm6 _ f5) (r5.mx dm6 (kp_same (same_new hp2 _))) ⟨hal, hpr, o5, part_nodup hps n5, by omega, by omega, by omega⟩
  rintro σ H5 ⟨rfl, rfl⟩
  refine cut (fun σ H' => ∃ n : Int, σ = [some (.ref r), some (.ref a), some (.int 5), some (.str al), some (.ref wd), some (.int sh), some (.int n), none, none, none] ∧ 1 ≤ n ∧ n ≤ 3 ∧ Ev [a] H5 H') (fun N hN => ?_) ?_
  · walk_at "rd"
    refine ⟨by decide, fun p hp => ?_⟩
    have eL : Ev [a] H5 (upd H5 p (.lst ([1, 2, 1, 3].map V.int))) := Ev.new hp _
    refine ⟨r, a, 4, rfl, (hd.ev e3').ev eL, by omega, fun v H6 v0 v1 e6 => ?_⟩
    have hp6 := e6.obj (b := p) (o := .lst ([1, 2, 1, 3].map V.int)) upd_same (fun i q => by simp at q)
    obtain ⟨n, hn, hat⟩ := pick_int [1, 2, 1, 3] v0 v1
    have hn3 : 1 ≤ n ∧ n ≤ 3 := by
      have : ∀ x ∈ ([1, 2, 1, 3] : List Int), 1 ≤ x ∧ x ≤ 3 := by decide
      exact this n hn
    exact ⟨_, v, rfl, SqL.of hp6, _, hat, hN _ _ ⟨n, rfl, hn3.1, hn3.2, eL.trans e6⟩⟩
  rintro σ H6 ⟨n, rfl, n0, n1, e6⟩
  have W5 : Wmax 5 = 2565860 := by decide
  have W4 : Wmax 4 = 427460 := by decide
  have e6' := e3'.trans e6
  have hW6 := hW3.ev e6 (by have := hW.ne1; simpa using this)
  have hd6 := hd.ev e6'
  refine cut (fun σ H' => ∃ (B : Addr) (HB : Hp) (b : List Stm) (u' : Nat), σ = [some (.ref r), some (.ref a), some (.int 5), some (.str al), some (.ref wd), some (.int sh), some (.int n), some (.ref B), none, none] ∧ Bd H6 HB H' a ua ba al pr ps B b u' 5 7700000 3) (fun N hN => ?_) ?_
  · refine ⟨_, rfl, n, rfl, by omega, by omega, fun D hD => lc_range (lo := 0) (n := n.toNat) (fun i H' => ∃ (b : List Stm) (u' : Nat), Bd H6 (upd H6 D (.lst [])) H' a ua ba al pr ps D b u' 5 (i * 2565860) i) ?_ ?_ ?_⟩
    · exact ⟨[], 0, ⟨[], upd_same, by unfold encL; exact RepL.nil⟩, okL_nil, by unfold namesL; exact Part.nil (by omega), by unfold depL; omega, by unfold wtL; omega, Nat.le_refl _, (Ev.refl _).over hD, Dom.refl, (upd_ne (ne_of_none hW6.hua hD)).trans hW6.hua, by rw [upd_same]; simp, Dom.upd, hD⟩
    · rintro i H' hi ⟨b, u', hB⟩
      walk_at "rd"
      refine ⟨by decide, fun p hp => ⟨by decide, fun p1 hp1 => ?_⟩⟩
      have eL : Ev [a] H' (upd (upd H' p (.lst [])) p1 (.lst [])) := (Ev.new hp _).trans (Ev.new hp1 _)
      have hW7 := hW6.ev' hB.ev hB.us
      have hW8 := hW7.ev eL (by have := hW.ne1; simpa using this)
      have S8 : Scn (upd (upd H' p (.lst [])) p1 (.lst [])) r a wd p p1 pa ua ba al pr ps [] [] u' := ⟨(hd6.ev hB.ev).ev eL, hW8, (upd_ne (ne_of_none upd_same hp1)).trans upd_same, upd_same⟩
      refine ⟨r, a, wd, p, p1, pa, ua, ba, al, pr, ps, [], [], u', 5, 5, rfl, S8, ⟨hal, hpr, hps, hB.part.2.1, by simp, by simp⟩, by omega, by omega, fun w s2 u2 H4 e4 r4 o4 n4 dd4 w4 hu4 => ?_⟩
      obtain ⟨vs, hDl, hR⟩ := hB.rep
      have k4 : Kp H' H4 := eL.kp.trans e4.kp
      have hDl4 := k4.l _ _ hR.items hDl
      refine ⟨vs, hDl4, ?_, b ++ [s2], u2, ⟨vs ++ [w], upd_same, ?_⟩, okL_append hB.ok (okL_cons.mpr ⟨o4, okL_nil⟩), ?_, ?_, ?_, by rw [List.length_append]; exact Nat.add_le_add_right hB.len 1, ((hB.ev.trans (eL.mono (by simp))).trans e4).over hD, ((hB.dm.trans eL.dom).trans e4.dom).trans Dom.upd, (upd_ne (ne_of_none hW6.hua hD)).trans hu4, hB.hB, hB.d0, hB.fB⟩
      · have := hB.len
        rw [hR.len, encL_len]
        exact small1000 (by omega)
      · refine RepL.mxUpd ?_ hB.hB (fun xs z => by rw [hDl4] at z; cases z)
        rw [encL_append, encL_one]
        exact (hR.mx Dom.refl k4).append (.one (r4.mx (hB.dm.trans eL.dom) Kp.refl))
      · rw [namesL_append, namesL_one]
        exact hB.part.app n4
      · rw [depL_append, depL_one]
        have := hB.dep
        omega
      · rw [wtL_append, wtL_one, Nat.add_mul, Nat.one_mul]
        have := hB.wtb
        have h5 : s2.wt ≤ 2565860 := w4
        omega
    · rintro H' ⟨b, u', hB⟩
      exact hN _ _ ⟨D, _, b, u', rfl, ⟨hB.rep, hB.ok, hB.part, hB.dep, by have := hB.wtb; omega, by have := hB.len; omega, hB.ev, hB.dm, hB.us, hB.hB, hB.d0, hB.fB⟩⟩
  rintro σ H7 ⟨B, HB, b, u', rfl, hB⟩
  refine cut (fun σ H' => ∃ (HB : Hp) (c : Option V) (b : List Stm) (u' : Nat), σ = [some (.ref r), some (.ref a), some (.int 5), some (.str al), some (.ref wd), some (.int sh), some (.int n), some (.ref B), none, c] ∧ Bd H6 HB H' a ua ba al pr ps B b u' 6 9000000 4) (fun N hN => ?_) ?_
  · have hW7 := hW6.ev' hB.ev hB.us
    refine ifcut (fun H' => H' = H7 ∧ u' < 3) (fun H' => H' = H7) (fun X Y hX hY => ?_) ?_ ?_
    · walk_at "rd"
      refine ⟨_, SqL.of hW7.hwd, _, rfl, _, rfl, _, SqL.of hW7.hua, _, rfl, _, rfl, ite2 (fun c => hX _ ⟨rfl, ?_⟩) (fun c => hY _ rfl)⟩
      have := of_decide_eq_true c
      omega
    · rintro H' ⟨rfl, hu3⟩
      have hlen := hps.len
      obtain ⟨x, hx⟩ : ∃ x, ps[u']? = some x := ⟨_, List.getElem?_eq_getElem (by omega)⟩
      have hat : atI (ps.map V.str) (u' : Int) = some (.str x) := at_ofN (by rw [List.getElem?_map, hx]; rfl)
      have hok : NameOk x := hps.ok x (List.mem_of_getElem? hx)
      have eU : Ev [a, ua, ba] H' (upd H' ua (.lst [.int ((u' + 1 : Nat) : Int)])) := Ev.set hW7.hua (by simp) _
      have hW8 := hW7.ev' eU upd_same
      refine cut (fun σ H1 => σ = [some (.ref r), some (.ref a), some (.int 5), some (.str al), some (.ref wd), some (.int sh), some (.int n), some (.ref B), none, some (.str x)] ∧ H1 = H') (fun M hM => ?_) ?_
      · walk_at "rd"
        exact ⟨_, SqL.of hW7.hwd, _, rfl, _, SqL.of hW7.hwd, _, rfl, _, rfl, _, SqL.of hW7.hua, _, rfl, _, rfl, _, _, rfl, SqL.of hW7.hpa, _, hat, hM _ _ ⟨rfl, rfl⟩⟩
      rintro σ H9 ⟨rfl, rfl⟩
      refine cut (fun σ H1 => σ = [some (.ref r), some (.ref a), some (.int 5), some (.str al), some (.ref wd), some (.int sh), some (.int n), some (.ref B), none, some (.str x)] ∧ H1 = upd H9 ua (.lst [.int ((u' + 1 : Nat) : Int)])) (fun M hM => ?_) ?_
      · walk_at "rd"
        refine ⟨_, SqL.of hW7.hwd, _, rfl, _, rfl, _, SqL.of hW7.hua, _, rfl, _, rfl, _, SqL.of hW7.hwd, _, rfl, _, rfl, _, hW7.hua, 0, rfl, hM _ _ ⟨rfl, rfl⟩⟩
      rintro σ H10 ⟨rfl, hH10⟩
      rw [← hH10] at hW8 eU
      obtain ⟨vs, hDl, hR⟩ := hB.rep
      walk_at "rd"
      refine ⟨.inl ⟨_, SqL.of (eU.kp.l _ _ hR.items hDl)⟩, by decide, fun p hp => ⟨by decide, fun p1 hp1 => ?_⟩⟩
      have eL : Ev [a] H10 (upd (upd H10 p (.lst [.str x])) p1 (.lst [])) := (Ev.new hp _).trans (Ev.new hp1 _)
      have hW9 := hW8.ev eL (by have := hW.ne1; simpa using this)
      have S9 : Scn (upd (upd H10 p (.lst [.str x])) p1 (.lst [])) r a wd p p1 pa ua ba al pr ps [x] [] (u' + 1) := ⟨((hd6.ev hB.ev).ev eU).ev eL, hW9, (upd_ne (ne_of_none upd_same hp1)).trans upd_same, upd_same⟩
      refine ⟨r, a, wd, p, p1, pa, ua, ba, al, pr, ps, [x], [], u' + 1, 4, 5, rfl, S9, ⟨hal, hpr, hps, by omega, by simp, by simp⟩, by omega, by omega, fun v5 vs5 b5 u5 H5 e5 h5 f5 r5 o5 n5 dd5 w5 l5 hu5 => ⟨by decide, fun p3 hp3 => ?_⟩⟩
      have e79 : Ev [a, ua, ba] H9 H5 := (eU.trans (eL.mono (by simp))).trans e5
      have k4 : Kp H9 (upd H5 p3 (.tup [.str (Str.ofString "for"), .str x, .str (Str.ofString "up"), .ref v5])) := e79.kp.trans (kp_same (same_new hp3 _))
      have hDl4 := k4.l _ _ hR.items hDl
      have d9 : Dom HB (upd (upd H10 p (.lst [.str x])) p1 (.lst [])) := (hB.dm.trans eU.dom).trans eL.dom
      have hwt : wtL b5 ≤ 3 * 427460 := w5
      refine ⟨vs, hDl4, ?_, hN _ _ ⟨HB, some (.str x), b ++ [.loop x (Str.ofString "up") b5], u5, rfl, ⟨vs ++ [.ref p3], upd_same, ?_⟩, okL_append hB.ok (okL_cons.mpr ⟨by unfold Stm.ok; exact ⟨hok, .inl rfl, o5⟩, okL_nil⟩), ?_, ?_, ?_, ?_, ((hB.ev.trans e79).trans (Ev.new hp3 _)).over hB.fB, ((((hB.dm.trans eU.dom).trans eL.dom).trans e5.dom).trans Dom.upd).trans Dom.upd, (upd_ne (ne_of_none hW6.hua hB.fB)).trans ((upd_ne (ne_of_none hu5 hp3)).trans hu5), hB.hB, hB.d0, hB.fB⟩⟩
      · have := hB.len
        rw [hR.len, encL_len]
        exact small1000 (by omega)
      · refine RepL.mxUpd ?_ hB.hB (fun xs z => by rw [hDl4] at z; cases z)
        rw [encL_append, encL_one]
        refine (hR.mx Dom.refl k4).append (.one ?_)
        refine Rep.seqIff.mpr ⟨p3, _, rfl, .inl (mx_tup.mpr upd_same), .cons (Rep.strIff.mpr rfl) (.cons (Rep.strIff.mpr rfl) (.cons (Rep.strIff.mpr rfl) (.one ?_)))⟩
        refine Rep.seqIff.mpr ⟨v5, vs5, rfl, .inr ⟨rfl, mx_lst.mpr ⟨(kp_same (same_new hp3 _)).l _ _ r5.items h5, d9 _ f5⟩⟩, r5.mx d9 (kp_same (same_new hp3 _))⟩
      · rw [namesL_append, namesL_one]
        exact hB.part.app (n5.one hx)
      · rw [depL_append, depL_one]
        have := hB.dep
        have : Stm.dep (.loop x (Str.ofString "up") b5) = depL b5 + 1 := by unfold Stm.dep; rfl
        omega
      · rw [wtL_append, wtL_one]
        have := hB.wtb
        have : Stm.wt (.loop x (Str.ofString "up") b5) = wtL b5 + 200 := by unfold Stm.wt; rfl
        omega
      · have := hB.len
        rw [List.length_append]
        exact Nat.add_le_add_right this 1
    · rintro H' rfl
      walk_at "rd"
      exact hN _ _ ⟨HB, none, b, u', rfl, ⟨hB.rep, hB.ok, hB.part, by have := hB.dep; omega, by have := hB.wtb; omega, by have := hB.len; omega, hB.ev, hB.dm, hB.us, hB.hB, hB.d0, hB.fB⟩⟩
  rintro σ H8 ⟨HB8, c, b8, u8, rfl, hB8⟩
  have hW8 := hW6.ev' hB8.ev hB8.us
  have hd8 := hd6.ev hB8.ev
  have fin : ∀ (B9 : Addr) (vs9 : List V) (b9 : List Stm) (H9 : Hp), Ev [a, ua, ba] H6 H9 → Wd H9 a wd pa ua ba al pr ps u8 → H9 B9 = some (.lst vs9) → H6 B9 = none → RepL false (Mx H6 H9) vs9 (encL b9) → okL al pr [] [] b9 → (namesL b9).Nodup → depL b9 ≤ 6 → wtL b9 ≤ 9010000 → b9.length ≤ 90 → ∀ p, H9 p = none → Q (.ref p) (upd H9 p (.lst [.str al, .str pr, .ref B9])) := by
    intro B9 vs9 b9 H9 e9 W9 h9 f9 r9 o9 n9 d9 w9 l9 p hp
    have ee : Ev [a, ua, ba] H (upd H9 p (.lst [.str al, .str pr, .ref B9])) := ((e6'.mono (by simp)).trans e9).trans (Ev.new hp _)
    have ee2 := ee.less (l := [ua, ba]) (fun b hb => by
      rcases List.mem_cons.mp hb with rfl | hb
      · exact fu
      · rw [List.mem_singleton.mp hb]
        exact fb)
    exact q p B9 al pr vs9 b9 _ ee2 upd_same ((e6'.dom.trans e9.dom) _ hp) ((upd_ne (ne_of_none h9 hp)).trans h9) (e6'.dom _ f9) (r9.mx e6'.dom (kp_same (same_new hp _))) ⟨hal, hpr, o9, n9, by omega, by omega, by omega⟩
  obtain ⟨vs8, hl8, hR8⟩ := hB8.rep
  refine cut (fun σ H' => ∃ (c : Option V) (B9 : Addr) (vs9 : List V) (b9 : List Stm), σ = [some (.ref r), some (.ref a), some (.int 5), some (.str al), some (.ref wd), some (.int sh), some (.int n), some (.ref B9), none, c] ∧ Ev [a, ua, ba] H6 H' ∧ Wd H' a wd pa ua ba al pr ps u8 ∧ H' B9 = some (.lst vs9) ∧ H6 B9 = none ∧ RepL false (Mx H6 H') vs9 (encL b9) ∧ okL al pr [] [] b9 ∧ (namesL b9).Nodup ∧ depL b9 ≤ 6 ∧ wtL b9 ≤ 9010000 ∧ b9.length ≤ 90) (fun N hN => ?_) ?_
  · walk_at "rd"
    refine ite2 (fun _ => ?_) (fun _ => hN _ _ ⟨c, B, vs8, b8, rfl, hB8.ev, hW8, hl8, hB8.fB, hR8.mx hB8.d0 Kp.refl, hB8.ok, part_nodup hps hB8.part, hB8.dep, by have := hB8.wtb; omega, by have := hB8.len; omega⟩)
    refine ⟨by decide, fun p hp => ⟨by decide, fun p1 hp1 => ?_⟩⟩
    have eL : Ev [a] H8 (upd (upd H8 p (.lst [])) p1 (.lst [])) := (Ev.new hp _).trans (Ev.new hp1 _)
    have S9 : Scn (upd (upd H8 p (.lst [])) p1 (.lst [])) r a wd p p1 pa ua ba al pr ps [] [] u8 := ⟨hd8.ev eL, hW8.ev eL (by have := hW.ne1; simpa using this), (upd_ne (ne_of_none upd_same hp1)).trans upd_same, upd_same⟩
    refine ⟨r, a, wd, p, p1, pa, ua, ba, al, pr, ps, [], [], u8, rfl, S9, hal, hpr, fun v w x H9 e9 r9 o9 => ⟨by decide, fun p2 hp2 => ?_⟩⟩
    have eP : Ev [a] H9 (upd H9 p2 (.lst [v])) := Ev.new hp2 _
    refine ⟨r, a, 24, rfl, ((hd8.ev eL).ev e9).ev eP, by omega, fun k H10 k0 k1 e10 => ?_⟩
    have e810 : Ev [a] H8 H10 := ((eL.trans e9).trans eP).trans e10
    have hv10 : H10 p2 = some (.lst [v]) := e10.kp.l _ _ (RepL.one r9).items upd_same
    have r10 : Rep true H10 v _ := r9.ev (eP.trans e10)
    have hl10 := e810.kp.l _ _ hR8.items hl8
    have hm : (24 + 2 * k).toNat ≤ 70 := by omega
    have hln8 := hB8.len
    have hv8 : vs8.length ≤ 4 := by rw [hR8.len, encL_len]; exact hln8
    refine ⟨k, rfl, .inl (by omega), [v], hv10, by omega, by omega, ?_, fun p3 hp3 => ⟨_, upd_same, vs8, (upd_ne (ne_of_none hl10 hp3)).trans hl10, ?_, fun p4 hp4 => ?_⟩⟩
    · show 1 * (24 + 2 * k).toNat ≤ sizeLine
      exact Nat.le_of_lt (small1000 (by omega))
    · rw [List.flatten_replicate_singleton, List.length_replicate]
      exact Nat.le_of_lt (small1000 (by omega))
    · rw [List.flatten_replicate_singleton] at hp4 ⊢
      have ee : Ev [a] H8 (upd (upd H10 p3 (.lst (List.replicate (24 + 2 * k).toNat v))) p4 (.lst (List.replicate (24 + 2 * k).toNat v ++ vs8))) := (e810.trans (Ev.new hp3 _)).trans (Ev.new hp4 _)
      have e34 : Ev [a] H10 (upd (upd H10 p3 (.lst (List.replicate (24 + 2 * k).toNat v))) p4 (.lst (List.replicate (24 + 2 * k).toNat v ++ vs8))) := (Ev.new hp3 _).trans (Ev.new hp4 _)
      refine hN _ _ ⟨c, p4, _, List.replicate (24 + 2 * k).toNat (.leaf w x) ++ b8, rfl, hB8.ev.trans (ee.mono (by simp)), hW8.ev ee (by have := hW.ne1; simpa using this), upd_same, (hB8.ev.dom.trans (e810.trans (Ev.new hp3 _)).dom) _ hp4, ?_, okL_append (okL_rep o9) hB8.ok, ?_, ?_, ?_, ?_⟩
      · rw [encL_append]
        exact RepL.append (RepL.reps (Rep.toMx (r10.ev e34))) (hR8.mx hB8.d0 ee.kp)
      · rw [namesL_append, namesL_rep]
        exact part_nodup hps hB8.part
      · rw [depL_append, depL_rep]
        have := hB8.dep
        omega
      · rw [wtL_append, wtL_rep]
        have := hB8.wtb
        omega
      · rw [List.length_append, List.length_replicate]
        omega
  rintro σ H9 ⟨c, B9, vs9, b9, rfl, e9, W9, h9, f9, r9, o9, n9, d9, w9, l9⟩
  walk_at "rd"
  exact ⟨_, SqL.of W9.hwd, _, rfl, _, SqL.of W9.hwd, _, rfl, by decide, fun p hp => fin B9 vs9 b9 H9 e9 W9 h9 f9 r9 o9 n9 d9 w9 l9 p hp⟩
end
end TW
/-! F1 -/
set_option Elab.async false
set_option linter.all false
set_option maxRecDepth 100000
set_option maxHeartbeats 4000000
namespace TW
open PySem L2 TL
local macro_rules | `(tactic| walk_at "rd") => `(tactic| simp only [tSeq, tAsg, tOp, tUn, tVar, tCB, tCons, tNil, tRet, tDrop, gName, gSub, gTup, gCons, gNil, rI, rI0, rU, rIxL, rIxT, rIxS, rSetL, tC, L2.start, cxOf, tIfS, tIf, tTest, tB, tAnd, tOr, tNot, tAndV, tOrV, tNotV, tChain, tTup, tLst, tCall, tNext, tNever,
  rEq, rNe, tBM, tBM0, rCat, rRep, rIn, tSl, rSlL, rSlT, rSlS, rAll, rAny, rSortedS, rAppend, rPop, rExtend, tyV, tFld, tM1, tFmt, tJs, tRev, tKGet, rRvL, rRvT, rRvS, rExtendT, rLstS, rRepS, tNoPart, tPart, tYes, StX.tStar, wipe, rIx,
  List.map, List.length, List.replicate, List.append, List.nil_append, List.cons_append, List.append_nil, List.set, Nat.zero_add, Nat.add_zero, Nat.reduceAdd, Nat.reduceSub, List.getElem?_cons_zero, List.getElem?_cons_succ, List.length_cons, List.length_nil, List.set_cons_zero, List.set_cons_succ, List.getElem?_nil, Option.some.injEq, V.ref.injEq, V.int.injEq, V.str.injEq, V.bl.injEq, List.cons.injEq, and_true, true_and, exists_eq_left, exists_eq_left', exists_eq', exists_eq, exists_and_left, exists_const, reduceCtorEq, false_or, or_false, true_or, or_true, false_and, and_false, and_assoc, if_true, if_false, Bool.false_eq_true, Bool.true_eq_false])
local macro_rules | `(tactic| walk_at "rdd") => `(tactic| simp only [tSeq, tAsg, tOp, tUn, tVar, tCB, tCons, tNil, tRet, tDrop, gName, gSub, gTup, gCons, gNil, rI, rI0, rU, rIxL, rIxT, rIxS, rSetL, tC, L2.start, cxOf, tIfS, tIf, tTest, tB, tAnd, tOr, tNot, tAndV, tOrV, tNotV, tChain, tTup, tLst, tCall, tNext, tNever,
  rEq, rNe, tBM, tBM0, rCat, rRep, rIn, tSl, rSlL, rSlT, rSlS, rAll, rAny, rSortedS, rAppend, rPop, rExtend, tyV, tFld, tM1, tFmt, tJs, tRev, tKGet, rRvL, rRvT, rRvS, rExtendT, rLstS, rRepS, tNoPart, tPart, tYes, StX.tStar, wipe, rIx, tFor, tWhile, tLc, iList, iTup, iSeq, iStr, iRng1, iRng2, iEnumS, iZipS,
  List.map, List.length, List.replicate, List.append, List.nil_append, List.cons_append, List.append_nil, List.set, Nat.zero_add, Nat.add_zero, Nat.reduceAdd, Nat.reduceSub, List.getElem?_cons_zero, List.getElem?_cons_succ, List.length_cons, List.length_nil, List.set_cons_zero, List.set_cons_succ, List.getElem?_nil, Option.some.injEq, V.ref.injEq, V.int.injEq, V.str.injEq, V.bl.injEq, List.cons.injEq, and_true, true_and, exists_eq_left, exists_eq_left', exists_eq', exists_eq, exists_and_left, exists_const, reduceCtorEq, false_or, or_false, true_or, or_true, false_and, and_false, and_assoc, if_true, if_false, Bool.false_eq_true, Bool.true_eq_false])
section
variable {P : Program} {w : World} {K : PySem.W.Frag} {mg : Str → Option Value} {base : Heap} {f g : Addr} {fd gd : FuncData}
mutual
def D.dep : D → Nat
  | .s _ => 0
  | .n ds => D.depL ds + 1
def D.depL : List D → Nat
  | [] => 0
  | d :: ds => max d.dep (D.depL ds)
end
theorem D.dep_mem : ∀ {ds : List D} {d : D}, d ∈ ds → d.dep ≤ D.depL ds
  | [], d, h => by cases h
  | e :: ds, d, h => by
    unfold D.depL
    rcases List.mem_cons.mp h with rfl | h
    · omega
    · have := D.dep_mem h
      omega
mutual
/-- every sequence within the bound -/
def D.fit : D → Prop
  | .s _ => True
  | .n ds => ds.length < sizeLine ∧ D.fitL ds
def D.fitL : List D → Prop
  | [] => True
  | d :: ds => d.fit ∧ D.fitL ds
end
theorem D.fit_n {ds : List D} (h : (D.n ds).fit) : ds.length < sizeLine ∧ D.fitL ds := by unfold D.fit at h; exact h
theorem D.fit_mem : ∀ {ds : List D} {d : D}, D.fitL ds → d ∈ ds → d.fit
  | [], d, _, h => by cases h
  | e :: ds, d, k, h => by
    unfold D.fitL at k
    rcases List.mem_cons.mp h with rfl | h
    · exact k.1
    · exact D.fit_mem k.2 h
theorem D.dep_n {ds : List D} : (D.n ds).dep = D.depL ds + 1 := by unfold D.dep; rfl
theorem isi_tup {H : Hp} {a : Addr} {xs : List V} {n : String} {b : Bool} {Q : VK} (h : H a = some (.tup xs)) (k : kitB "tuple" n = some b) (q : Q (.bl b) H) : rIsi K [.ref a, .ty n] H Q := ⟨_, _, _, _, b, rfl, .ty n, .base (.tup h), kit_ty k, q⟩
theorem isi_lst {H : Hp} {a : Addr} {xs : List V} {n : String} {b : Bool} {Q : VK} (h : H a = some (.lst xs)) (k : kitB "list" n = some b) (q : Q (.bl b) H) : rIsi K [.ref a, .ty n] H Q := ⟨_, _, _, _, b, rfl, .ty n, .base (.lst h), kit_ty k, q⟩
theorem isi_str {H : Hp} {x : Str} {n : String} {b : Bool} {Q : VK} (k : kitB "str" n = some b) (q : Q (.bl b) H) : rIsi K [.str x, .ty n] H Q := ⟨_, _, _, _, b, rfl, .ty n, .base (.str x), kit_ty k, q⟩
/-- a comprehension over a list or a tuple -/
theorem lcSeq {K : PySem.W.Frag} {tl : TE} {g : TG} {tt : TT} {te : TE} {ws : List Nat} {σ : St} {H : Hp} {Q : VK} {a : Addr} {xs : List V} (Pv : Addr → Nat → Hp → Prop) (ht : ∀ R : VK, R (.ref a) H → tl σ H R) (hx : H a = some (.tup xs) ∨ H a = some (.lst xs))
    (h0 : ∀ D, H D = none → Pv D 0 (upd H D (.lst []))) (hk : ∀ D i H', H D = none → Pv D i H' → H' a = H a)
    (hs : ∀ D i x H', H D = none → xs[i]? = some x → Pv D i H' → g x (wipe σ ws) H' fun σ2 H2 => wipe σ2 ws = wipe σ ws ∧ tt σ2 H2 fun b H3 => if b = true then te σ2 H3 fun y H4 => ∃ acc, H4 D = some (.lst acc) ∧ acc.length < sizeLine ∧ Pv D (i + 1) (upd H4 D (.lst (acc ++ [y]))) else Pv D (i + 1) H3)
    (hd : ∀ D H', H D = none → Pv D xs.length H' → Q (.ref D) H') : tLc (iSeq K tl) g tt te ws σ H Q := by
  unfold tLc iSeq
  refine ht _ ?_
  rcases hx with hx | hx
  · exact .inr ⟨a, rfl, ⟨xs, SqT.of hx⟩, fun D hD => lc_tup (xs := xs) (Pv D) (h0 D hD) (fun i H' _ p => SqT.of ((hk D i H' hD p).trans hx)) (fun i x H' e p => hs D i x H' hD e p) (fun H' p => hd D H' hD p)⟩
  · exact .inl ⟨a, rfl, ⟨xs, SqL.of hx⟩, fun D hD => lc_list (xs := xs) (Pv D) (h0 D hD) (fun i H' _ p => SqL.of ((hk D i H' hD p).trans hx)) (fun i x H' e p => hs D i x H' hD e p) (fun H' p => hd D H' hD p)⟩
theorem RepL.updT {H : Hp} {D : Addr} {us : List V} {o : HO} {vs : List V} {ds : List TW.D} (h : RepL true H vs ds) (hD : H D = some (.lst us)) : RepL true (upd H D o) vs ds :=
  RepL.keep (fun a xs e => (upd_ne (fun z => by rw [z, hD] at e; cases e)).trans e) (fun z => by cases z) ds vs h
theorem RepL.updN {m : Bool} {H : Hp} {D : Addr} {o : HO} {vs : List V} {ds : List TW.D} (h : RepL m H vs ds) (hD : H D = none) : RepL m (upd H D o) vs ds := h.same (same_new hD _)
theorem Kp.keepO {H H' : Hp} {m : Bool} {a : Addr} {xs : List V} {ds : List D} (k : Kp H H') (h : H a = some (.tup xs) ∨ (m = false ∧ H a = some (.lst xs))) (r : RepL m H xs ds) : H' a = H a := by
  rcases h with h | ⟨_, h⟩
  · rw [h, k.t _ _ h]
  · rw [h, k.l _ _ r.items h]
theorem at_of0 {α : Type} {xs : List α} {j : Nat} {v : α} (h : xs[j]? = some v) : atI xs (0 + (j : Int)) = some v := by
  rw [Int.zero_add]
  exact at_ofN h
def spFrozen (m : Nat) : Sp := fun vs H Q _ => ∃ (v : V) (d : D), vs = [v] ∧ Rep false H v d ∧ d.dep < m ∧ d.fit ∧ ∀ (v' : V) (H' : Hp), Ev [] H H' → Rep true H' v' d → Q v' H'
theorem ok_lfrozen {m : Nat} (F : Fun K "_law_frozen" "_law_frozen" s__law_frozen f fd) (T : Bt mg) (C__law_frozen : Cl P w K mg base "_law_frozen" (m + 1) ["value"] (spFrozen m)) : FnOk P w K mg base CX0 (m + 2) f fd ["value"] (spFrozen (m + 1)) := by
  refine F.ok sc__law_frozen (fun vs H Q E h => ?_) (fun cdv A outer s H vs Q E hr h => ?_)
  · obtain ⟨v, d, rfl, _⟩ := h
    rfl
  obtain ⟨v, d, rfl, hR, hm, hf, q⟩ := h
  refine ⟨_, (pss_cons (ps_if (PW.pt (pw_or (pt_val (pe_callB (r := rIsi K) (id := "isinstance") call_isi (by rfl) T.b_isinstance (by decide +kernel) (pa_cons (pv 0) (pa_cons (pe_bltn (v := .ty "list") (by rfl) T.b_list (by decide +kernel) rfl) pa_nil)))) (pw_or1 (pt_val (pe_callB (r := rIsi K) (id := "isinstance") call_isi (by rfl) T.b_isinstance (by decide +kernel) (pa_cons (pv 0) (pa_cons (pe_bltn (v := .ty "tuple") (by rfl) T.b_tuple (by decide +kernel) rfl) pa_nil))))))) (pss_one (ps_ret (pe_callTy call_tuple_of (by rfl) T.b_tuple (by decide +kernel) (pa_cons (pe_lc (own := [("item", 1)]) (g := gName 1) (by rfl) sc__law_frozen.nd (pi_seq (pv 0)) (blkOk_by (N := ["value", "item"]) (sc := defScope s__law_frozen) (by decide +kernel)) (fun _ _ _ _ _ => pg_name (i := 1) sc__law_frozen.nd rfl (by first | exact Or.inl rfl | exact Or.inr rfl)) (fun _ _ _ _ _ => pts_nil) (fun _ _ _ _ _ => (pe_call C__law_frozen.ok (hr.mono (by omega)) (by rfl) C__law_frozen.mg C__law_frozen.kp C__law_frozen.b .nil pass0 (pa_cons (pv 1) pa_nil)))) pa_nil)))) pss_nil)
        (pss_one (ps_ret (pv 0)))), ?_⟩
  walk_at "rd"
  cases d with
  | s z =>
    cases Rep.strIff.mp hR
    refine isi_str (b := false) rfl ⟨_, rfl, ?_⟩
    rw [if_neg (by decide)]
    refine isi_str (b := false) rfl ⟨_, rfl, ?_⟩
    rw [if_neg (by decide)]
    exact q _ _ (Ev.refl _) (Rep.strIff.mpr rfl)
  | n ds =>
    obtain ⟨a, vs, rfl, ha, hL⟩ := Rep.seqIff.mp hR
    have hm' : ∀ d ∈ ds, d.dep < m := fun d hd => by
      have := D.dep_mem hd
      rw [D.dep_n] at hm
      omega
    have hfit := D.fit_n hf
    have key : tLc (iSeq K (tVar 0)) (gName 1) tYes (tCall (spFrozen m) [] E0 (tCons (tVar 1) tNil)) [1] [some (.ref a), none] H fun x H1 => ∃ p, x = V.ref p ∧ ∃ x, (SqL K H1 p x ∧ ∀ (l : Addr), H1 l = none → Q (V.ref l) (upd H1 l (HO.tup x))) ∨ SqT K H1 p x ∧ Q (V.ref p) H1 := by
      refine lcSeq (a := a) (xs := vs) (fun D i H' => ∃ us, H' D = some (.lst us) ∧ RepL true H' us (ds.take i) ∧ Ev [] H H') (fun R h => ?_) (ha.imp id And.right)
        (fun D hD => ⟨[], upd_same, RepL.nil, (Ev.refl _).over hD⟩) (fun D i H' _ ⟨us, _, _, ev⟩ => Kp.keepO ev.kp ha hL) (fun D i x H' hD hx ⟨us, hl, hu, ev⟩ => ?_) (fun D H' hD ⟨us, hl, hu, ev⟩ => ?_)
      · exact ⟨_, rfl, h⟩
      · walk_at "rd"
        obtain ⟨di, hdi, hr⟩ := hL.get' hx
        have hmem := List.mem_of_getElem? hdi
        have hlt : i < ds.length := by
          rcases Nat.lt_or_ge i ds.length with k | k
          · exact k
          · rw [List.getElem?_eq_none k] at hdi
            cases hdi
        refine ⟨x, di, rfl, hr.ev ev, hm' di hmem, TW.D.fit_mem hfit.2 hmem, fun v' H2 e2 r2 => ⟨us, ?_, ?_, us ++ [v'], upd_same, ?_, ?_⟩⟩
        · exact e2.kp.l _ _ hu.items hl
        · rw [hu.len, List.length_take]
          exact Nat.lt_of_le_of_lt (Nat.min_le_right _ _) hfit.1
        · rw [List.take_succ, hdi]
          exact ((hu.ev e2).append (.one r2)).updT (e2.kp.l _ _ hu.items hl)
        · exact (ev.trans e2).over hD
      · refine ⟨D, rfl, us, .inl ⟨SqL.of hl, fun l hl0 => ?_⟩⟩
        rw [hL.len, List.take_length] at hu
        exact q _ _ (ev.trans (Ev.new hl0 _)) (Rep.seqIff.mpr ⟨l, us, rfl, .inl upd_same, hu.updN hl0⟩)
    rcases ha with h | ⟨_, h⟩
    · refine isi_tup (b := false) h rfl ⟨_, rfl, ?_⟩
      rw [if_neg (by decide)]
      refine isi_tup (b := true) h rfl ⟨_, rfl, ?_⟩
      rw [if_pos rfl]
      exact key
    · refine isi_lst (b := true) h rfl ⟨_, rfl, ?_⟩
      rw [if_pos rfl]
      exact key
def spThawed (m : Nat) : Sp := fun vs H Q _ => ∃ (v : V) (d : D) (kd : Int) (r a : Addr), vs = [v, .int kd, .ref r, .ref a] ∧ Rep false H v d ∧ d.dep < m ∧ d.fit ∧ Dr H r a ∧ ∀ (v' : V) (H' : Hp), Ev [a] H H' → Rep false (Mx H H') v' d → Q v' H'
theorem ok_thawed {m : Nat} (F : Fun K "_law_thawed" "_law_thawed" s__law_thawed f fd) (T : Bt mg) (C__law_draw : Cl P w K mg base "_law_draw" 1 ["row", "at", "size"] spDraw) (C__law_thawed : Cl P w K mg base "_law_thawed" (m + 2) ["value", "kind", "row", "at"] (spThawed m)) : FnOk P w K mg base CX0 (m + 3) f fd ["value", "kind", "row", "at"] (spThawed (m + 1)) := by
  refine F.ok sc__law_thawed (fun vs H Q E h => ?_) (fun cdv A outer s H vs Q E hr h => ?_)
  · obtain ⟨v, d, kd, r, a, rfl, _⟩ := h
    rfl
  obtain ⟨v, d, kd, r, a, rfl, hR, hm, hf, hd, q⟩ := h
  refine ⟨_, (pss_cons (ps_if (pt_val (pe_callB (r := rIsi K) (id := "isinstance") call_isi (by rfl) T.b_isinstance (by decide +kernel) (pa_cons (pv 0) (pa_cons (pe_bltn (v := .ty "str") (by rfl) T.b_str (by decide +kernel) rfl) pa_nil)))) (pss_one (ps_ret (pv 0))) pss_nil)
        (pss_cons (ps_setLc (i := 4) (own := [("item", 5)]) (g := gName 5) (by rfl) sc__law_thawed.nd rfl rfl (sw_true rfl rfl rfl (by decide +kernel)) (pi_seq (pv 0)) (blkOk_by (N := ["value", "kind", "row", "at", "parts", "item"]) (sc := defScope s__law_thawed) (by decide +kernel)) (fun _ _ _ _ _ => pg_name (i := 5) sc__law_thawed.nd rfl (by first | exact Or.inl rfl | exact Or.inr rfl)) (fun _ _ _ _ _ => pts_nil) (fun _ _ _ _ _ => (pe_call C__law_thawed.ok (hr.mono (by omega)) (by rfl) C__law_thawed.mg C__law_thawed.kp C__law_thawed.b .nil pass0 (pa_cons (pv 5) (pa_cons (pv 1) (pa_cons (pv 2) (pa_cons (pv 3) pa_nil)))))))
        (pss_cons (ps_if (PW.pt (pw_or (pt_cmpR op_eq (pv 1) pe_int (nomark _)) (pw_or1 (PW.pt (pw_and (pt_cmpR op_eq (pv 1) pe_int (nomark _)) (pw_and1 (pt_cmpR op_eq (pe_call C__law_draw.ok (hr.mono (by omega)) (by rfl) C__law_draw.mg C__law_draw.kp C__law_draw.b .nil pass0 (pa_cons (pv 2) (pa_cons (pv 3) (pa_cons pe_int pa_nil)))) pe_int (nomark _)))))))) (pss_one (ps_ret (pe_callTy call_tuple_of (by rfl) T.b_tuple (by decide +kernel) (pa_cons (pv 4) pa_nil)))) pss_nil)
        (pss_one (ps_ret (pv 4)))))), ?_⟩
  walk_at "rd"
  cases d with
  | s z =>
    cases Rep.strIff.mp hR
    refine isi_str (b := true) rfl ⟨_, rfl, ?_⟩
    rw [if_pos rfl]
    exact q _ _ (Ev.refl _) (Rep.strIff.mpr rfl)
  | n ds =>
    obtain ⟨b, vs, rfl, hb, hL⟩ := Rep.seqIff.mp hR
    have hm' : ∀ d ∈ ds, d.dep < m := fun d hd => by
      have := D.dep_mem hd
      rw [D.dep_n] at hm
      omega
    have hfit := D.fit_n hf
    have isi : ∀ {Q : VK}, Q (.bl false) H → rIsi K [.ref b, .ty "str"] H Q := fun q => by
      rcases hb with h | ⟨_, h⟩
      · exact isi_tup (b := false) h rfl q
      · exact isi_lst (b := false) h rfl q
    refine isi ⟨_, rfl, ?_⟩
    rw [if_neg (by decide)]
    refine lcSeq (a := b) (xs := vs) (fun D i H' => ∃ us, H' D = some (.lst us) ∧ RepL false (Mx (upd H D (.lst [])) H') us (ds.take i) ∧ Ev [a] H H' ∧ Dom (upd H D (.lst [])) H') (fun R h => ⟨_, rfl, h⟩) (hb.imp id And.right)
        (fun D hD => ⟨[], upd_same, RepL.nil, (Ev.refl _).over hD, Dom.refl⟩) (fun D i H' _ ⟨us, _, _, ev, _⟩ => Kp.keepO ev.kp hb hL) (fun D i x H' hD hx ⟨us, hl, hu, ev, dm⟩ => ?_) (fun D H' hD ⟨us, hl, hu, ev, dm⟩ => ?_)
    · walk_at "rd"
      obtain ⟨di, hdi, hr⟩ := hL.get' hx
      have hmem := List.mem_of_getElem? hdi
      have hDne : (upd H D (.lst [])) D ≠ none := by rw [upd_same]; simp
      refine ⟨x, di, kd, r, a, rfl, hr.ev ev, hm' di hmem, TW.D.fit_mem hfit.2 hmem, hd.ev ev, fun v' H2 e2 r2 => ?_⟩
      have hl2 := e2.kp.l _ _ hu.items hl
      refine ⟨us, hl2, ?_, us ++ [v'], upd_same, ?_, (ev.trans e2).over hD, (dm.trans e2.dom).trans Dom.upd⟩
      · rw [hu.len, List.length_take]
        exact Nat.lt_of_le_of_lt (Nat.min_le_right _ _) hfit.1
      · refine RepL.mxUpd ?_ hDne (fun xs z => by rw [hl2] at z; cases z)
        rw [List.take_succ, hdi]
        exact (hu.mx Dom.refl e2.kp).append (.one (r2.mx dm Kp.refl))
    · rw [hL.len, List.take_length] at hu
      have tp : ∀ H2, Ev [a] H' H2 → ∃ p, V.ref D = V.ref p ∧ ∃ x, (SqL K H2 p x ∧ ∀ (l : Addr), H2 l = none → Q (V.ref l) (upd H2 l (HO.tup x))) ∨ SqT K H2 p x ∧ Q (V.ref p) H2 := fun H2 e2 =>
        ⟨D, rfl, us, .inl ⟨SqL.of (e2.kp.l _ _ hu.items hl), fun l hl0 => q _ _ ((ev.trans e2).trans (Ev.new hl0 _)) (Rep.seqIff.mpr ⟨l, us, rfl, .inl (mx_tup.mpr upd_same), hu.mx Dom.upd (e2.kp.trans (kp_same (same_new hl0 _)))⟩)⟩⟩
      have ls : ∀ H2, Ev [a] H' H2 → Q (.ref D) H2 := fun H2 e2 => q _ _ (ev.trans e2) (Rep.seqIff.mpr ⟨D, us, rfl, .inr ⟨rfl, mx_lst.mpr ⟨e2.kp.l _ _ hu.items hl, hD⟩⟩, hu.mx Dom.upd e2.kp⟩)
      refine ⟨rfl, ite2 (fun _ => tp H' (Ev.refl _)) (fun _ => ⟨rfl, ite2 (fun _ => ⟨r, a, 3, rfl, hd.ev ev, by omega, fun v H2 v0 v1 e2 => ⟨rfl, ite2 (fun _ => tp H2 e2) (fun _ => ls H2 e2)⟩⟩) (fun _ => ls H' (Ev.refl _))⟩)⟩
def spSame (m : Nat) : Sp := fun vs H Q _ => ∃ (v u : V) (d : D), vs = [v, u] ∧ Rep true H v d ∧ Rep true H u d ∧ d.dep < m ∧ d.fit ∧ Q (.bl true) H
theorem ok_lsame {m : Nat} (F : Fun K "_law_same" "_law_same" s__law_same f fd) (T : Bt mg) (C__law_whole : Cl P w K mg base "_law_whole" 1 ["value"] (fun _ _ _ _ => False)) (C__law_same : Cl P w K mg base "_law_same" (m + 2) ["told", "due"] (spSame m)) : FnOk P w K mg base CX0 (m + 3) f fd ["told", "due"] (spSame (m + 1)) := by
  refine F.ok sc__law_same (fun vs H Q E h => ?_) (fun cdv A outer s H vs Q E hr h => ?_)
  · obtain ⟨v, u, d, rfl, _⟩ := h
    rfl
  obtain ⟨v, u, d, rfl, h1, h2, hm, hf, q⟩ := h
  refine ⟨_, (pss_cons (ps_if (pt_val (pe_callB (r := rIsi K) (id := "isinstance") call_isi (by rfl) T.b_isinstance (by decide +kernel) (pa_cons (pv 1) (pa_cons (pe_bltn (v := .ty "tuple") (by rfl) T.b_tuple (by decide +kernel) rfl) pa_nil)))) (pss_cons (ps_if (PW.pt (pw_or (pt_not (pt_val (pe_callB (r := rIsi K) (id := "isinstance") call_isi (by rfl) T.b_isinstance (by decide +kernel) (pa_cons (pv 0) (pa_cons (pe_bltn (v := .ty "tuple") (by rfl) T.b_tuple (by decide +kernel) rfl) pa_nil))))) (pw_or1 (pt_cmpR op_ne (pe_callB call_len_seq (by rfl) T.b_len PySem.boot_len (pa_cons (pv 0) pa_nil)) (pe_callB call_len_seq (by rfl) T.b_len PySem.boot_len (pa_cons (pv 1) pa_nil)) (nomark _))))) (pss_one (ps_ret pe_bl)) pss_nil)
          (pss_cons (ps_for PassesOwn.never (by rfl) (pi_range1 (by rfl) T.b_range (pa_cons (pe_callB call_len_seq (by rfl) T.b_len PySem.boot_len (pa_cons (pv 1) pa_nil)) pa_nil)) (pg_name (i := 2) sc__law_same.nd rfl (by first | exact Or.inl rfl | exact Or.inr rfl)) (pss_one (ps_if (pt_not (pt_val (pe_call C__law_same.ok (hr.mono (by omega)) (by rfl) C__law_same.mg C__law_same.kp C__law_same.b .nil pass0 (pa_cons (pe_ix (r := rIxT K) ix_tup (pv 0) (pv 2) (fun _ _ => rfl)) (pa_cons (pe_ix (r := rIxT K) ix_tup (pv 1) (pv 2) (fun _ _ => rfl)) pa_nil))))) (pss_one (ps_ret pe_bl)) pss_nil)))
          (pss_one (ps_ret pe_bl)))) pss_nil)
        (pss_cons (ps_if (pt_val (pe_callB (r := rIsi K) (id := "isinstance") call_isi (by rfl) T.b_isinstance (by decide +kernel) (pa_cons (pv 1) (pa_cons (pe_bltn (v := .ty "bool") (by rfl) T.b_bool (by decide +kernel) rfl) pa_nil)))) (pss_one (ps_ret (pe_and (pe_callB (r := rIsi K) (id := "isinstance") call_isi (by rfl) T.b_isinstance (by decide +kernel) (pa_cons (pv 0) (pa_cons (pe_bltn (v := .ty "bool") (by rfl) T.b_bool (by decide +kernel) rfl) pa_nil))) (pe_one (pe_cmpR op_eq (pv 0) (pv 1) (nomark _)))))) pss_nil)
        (pss_cons (ps_if (pt_val (pe_callB (r := rIsi K) (id := "isinstance") call_isi (by rfl) T.b_isinstance (by decide +kernel) (pa_cons (pv 1) (pa_cons (pe_bltn (v := .ty "int") (by rfl) T.b_int (by decide +kernel) rfl) pa_nil)))) (pss_one (ps_ret (pe_and (pe_call C__law_whole.ok (hr.mono (by omega)) (by rfl) C__law_whole.mg C__law_whole.kp C__law_whole.b .nil pass0 (pa_cons (pv 0) pa_nil)) (pe_one (pe_cmpR op_eq (pv 0) (pv 1) (nomark _)))))) pss_nil)
        (pss_one (ps_ret (pe_and (pe_callB (r := rIsi K) (id := "isinstance") call_isi (by rfl) T.b_isinstance (by decide +kernel) (pa_cons (pv 0) (pa_cons (pe_bltn (v := .ty "str") (by rfl) T.b_str (by decide +kernel) rfl) pa_nil))) (pe_one (pe_cmpR op_eq (pv 0) (pv 1) (nomark _))))))))), ?_⟩
  walk_at "rd"
  cases d with
  | s z =>
    cases Rep.strIff.mp h1
    cases Rep.strIff.mp h2
    refine isi_str (b := false) rfl ⟨_, rfl, ?_⟩
    rw [if_neg (by decide)]
    refine isi_str (b := false) rfl ⟨_, rfl, ?_⟩
    rw [if_neg (by decide)]
    refine isi_str (b := false) rfl ⟨_, rfl, ?_⟩
    rw [if_neg (by decide)]
    refine isi_str (b := true) rfl ⟨_, rfl, ?_⟩
    rw [if_pos rfl]
    exact ⟨by simp [scal], by simpa using q⟩
  | n ds =>
    obtain ⟨a, xs, rfl, ha, hL⟩ := Rep.seqIff.mp h1
    obtain ⟨b, ys, rfl, hb, hM⟩ := Rep.seqIff.mp h2
    have ha' : H a = some (.tup xs) := by
      rcases ha with h | ⟨z, _⟩
      · exact h
      · cases z
    have hb' : H b = some (.tup ys) := by
      rcases hb with h | ⟨z, _⟩
      · exact h
      · cases z
    have hm' : ∀ d ∈ ds, d.dep < m := fun d hd => by
      have := D.dep_mem hd
      rw [D.dep_n] at hm
      omega
    have hlen : xs.length = ys.length := hL.len.trans hM.len.symm
    refine isi_tup (b := true) hb' rfl ⟨_, rfl, ?_⟩
    rw [if_pos rfl]
    refine isi_tup (b := true) ha' rfl ⟨_, rfl, ?_⟩
    rw [if_neg (by decide)]
    refine ⟨a, rfl, xs, .inr (SqT.of ha'), b, rfl, ys, .inr (SqT.of hb'), rfl, ?_⟩
    rw [if_neg (by rw [hlen]; simp)]
    have hsz := (D.fit_n hf).1
    have hy : ys.length = ds.length := hM.len
    have hsl : sizeLine = 16777216 := by decide
    refine ⟨_, rfl, b, rfl, ys, .inr (SqT.of hb'), (ys.length : Int), rfl, by omega, by omega, for_range (lo := 0) (n := ys.length) (fun i σ H' => ∃ c, σ = [some (.ref a), some (.ref b), c] ∧ H' = H) ⟨none, rfl, rfl⟩ ?_ ?_⟩
    · rintro i σ H' hi ⟨c, rfl, rfl⟩
      walk_at "rd"
      obtain ⟨x, hx⟩ : ∃ x, xs[i]? = some x := ⟨_, List.getElem?_eq_getElem (by omega)⟩
      obtain ⟨y, hy⟩ : ∃ y, ys[i]? = some y := ⟨_, List.getElem?_eq_getElem (by omega)⟩
      obtain ⟨d1, hd1, r1⟩ := hL.get' hx
      obtain ⟨d2, hd2, r2⟩ := hM.get' hy
      rw [hd1] at hd2
      cases hd2
      have hmem := List.mem_of_getElem? hd1
      refine ⟨xs, SqT.of ha', x, at_of0 hx, ys, SqT.of hb', y, at_of0 hy, x, y, d1, rfl, r1, r2, hm' d1 hmem, TW.D.fit_mem (D.fit_n hf).2 hmem, true, rfl, ?_⟩
      rw [if_neg (by decide)]
    · rintro σ H' ⟨c, rfl, rfl⟩
      exact q
theorem all_lfrozen (F : Fun K "_law_frozen" "_law_frozen" s__law_frozen f fd) (T : Bt mg) (b : Binds K fd ["value"] []) (mF : mg "_law_frozen" = some (.ref f)) : ∀ m : Nat, FnOk P w K mg base CX0 (m + 1) f fd ["value"] (spFrozen m)
  | 0 => FnOk.none fun vs H Q E h => by
    obtain ⟨v, d, rfl, hR, hm, _⟩ := h
    omega
  | m + 1 => ok_lfrozen F T ⟨f, fd, all_lfrozen F T b mF m, b, F.kp, mF⟩
theorem all_thawed (F : Fun K "_law_thawed" "_law_thawed" s__law_thawed f fd) (T : Bt mg) (C__law_draw : Cl P w K mg base "_law_draw" 1 ["row", "at", "size"] spDraw) (b : Binds K fd ["value", "kind", "row", "at"] []) (mF : mg "_law_thawed" = some (.ref f)) : ∀ m : Nat, FnOk P w K mg base CX0 (m + 2) f fd ["value", "kind", "row", "at"] (spThawed m)
  | 0 => FnOk.none fun vs H Q E h => by
    obtain ⟨v, d, kd, r, a, rfl, hR, hm, _⟩ := h
    omega
  | m + 1 => ok_thawed F T C__law_draw ⟨f, fd, all_thawed F T C__law_draw b mF m, b, F.kp, mF⟩
theorem all_lsame (F : Fun K "_law_same" "_law_same" s__law_same f fd) (T : Bt mg) (C__law_whole : Cl P w K mg base "_law_whole" 1 ["value"] (fun _ _ _ _ => False)) (b : Binds K fd ["told", "due"] []) (mF : mg "_law_same" = some (.ref f)) : ∀ m : Nat, FnOk P w K mg base CX0 (m + 2) f fd ["told", "due"] (spSame m)
  | 0 => FnOk.none fun vs H Q E h => by
    obtain ⟨v, u, d, rfl, _, _, hm, _⟩ := h
    omega
  | m + 1 => ok_lsame F T C__law_whole ⟨f, fd, all_lsame F T C__law_whole b mF m, b, F.kp, mF⟩
/-! ### how deep and how wide drawn programs are -/
end
end TW
/-! F2 -/
set_option Elab.async false
set_option linter.all false
set_option maxRecDepth 100000
set_option maxHeartbeats 4000000
namespace TW
open PySem L2 TL
/-! ### the text of a program, line by line, as lists of code points -/
abbrev qs (s : String) : List Nat := tl (Str.ofString s)
def atW (w : Str) : Str := if w = Str.ofString "same" then Str.ofString "at" else w
def Tst.tx : Tst → List Nat
  | .p3 w x y => tl x ++ (qs " " ++ (tl (atW w) ++ (qs " " ++ tl y)))
  | .mk m => tl m
  | .no t => qs "not " ++ t.tx
  | .bi w a b => qs "(" ++ (a.tx ++ (qs " " ++ (tl w ++ (qs " " ++ (b.tx ++ qs ")")))))
def P3W (w : Str) : Prop := w = Str.ofString "in" ∨ w = Str.ofString "before" ∨ w = Str.ofString "same"
def BiW (w : Str) : Prop := w = Str.ofString "and" ∨ w = Str.ofString "or"
def LfW (w : Str) : Prop := w = Str.ofString "set" ∨ w = Str.ofString "clear" ∨ w = Str.ofString "copy" ∨ w = Str.ofString "print"
def UpW (w : Str) : Prop := w = Str.ofString "up" ∨ w = Str.ofString "down"
def Tst.sh : Tst → Prop
  | .p3 w x y => P3W w ∧ x.length ≤ 20 ∧ y.length ≤ 20
  | .mk m => m.length ≤ 20
  | .no t => t.sh
  | .bi w a b => BiW w ∧ a.sh ∧ b.sh
mutual
def Stm.sh : Stm → Prop
  | .loop x w b => x.length ≤ 20 ∧ UpW w ∧ shL b
  | .mark x b => x.length ≤ 20 ∧ shL b
  | .cond t a b => t.sh ∧ t.dep ≤ 4 ∧ shL a ∧ shL b
  | .leaf w x => LfW w ∧ x.length ≤ 40
def shL : List Stm → Prop
  | [] => True
  | s :: r => s.sh ∧ shL r
end
theorem shL_cons {s : Stm} {r : List Stm} : shL (s :: r) ↔ s.sh ∧ shL r := by
  constructor
  · intro h; unfold shL at h; exact h
  · intro h; unfold shL; exact h
theorem shL_mem : ∀ {b : List Stm} {s : Stm}, shL b → s ∈ b → s.sh
  | [], s, _, h => by cases h
  | t :: r, s, k, h => by
    have k := shL_cons.mp k
    rcases List.mem_cons.mp h with rfl | h
    · exact k.1
    · exact shL_mem k.2 h
theorem LetOk.len {al z : Str} (h : LetOk al z) (A : Alph al) : z.length ≤ 20 := by
  have h1 := h.sub.length_le
  have h2 := A.hi
  rw [len_tl] at h2 ⊢
  omega
theorem tst_sh {al : Str} {L M : List Str} (A : Alph al) (hL : ∀ x ∈ L, NameOk x) (hM : ∀ x ∈ M, NameOk x) : ∀ {t : Tst}, t.ok al L M → t.sh
  | .p3 w x y, h => by
    unfold Tst.ok at h
    unfold Tst.sh
    rcases h with ⟨rfl, hx, hy⟩ | ⟨hw, hx, hy⟩
    · exact ⟨.inl rfl, (hL x hx).hi, hy.len A⟩
    · exact ⟨.inr hw, (hL x hx).hi, (hL y hy).hi⟩
  | .mk m, h => by
    unfold Tst.ok at h
    unfold Tst.sh
    exact (hM m h).hi
  | .no t, h => by
    unfold Tst.ok at h
    unfold Tst.sh
    exact tst_sh A hL hM h
  | .bi w a b, h => by
    unfold Tst.ok at h
    unfold Tst.sh
    exact ⟨h.1, tst_sh A hL hM h.2.1, tst_sh A hL hM h.2.2⟩
theorem mem_snoc {p : Str → Prop} {L : List Str} {x : Str} (h : ∀ y ∈ L, p y) (hx : p x) : ∀ y ∈ L ++ [x], p y := fun y hy => by
  rcases List.mem_append.mp hy with k | k
  · exact h y k
  · rw [List.mem_singleton.mp k]
    exact hx
mutual
theorem stm_sh {al pr : Str} (A : Alph al) : ∀ {L M : List Str} {s : Stm}, (∀ x ∈ L, NameOk x) → (∀ x ∈ M, NameOk x) → s.ok al pr L M → s.sh
  | L, M, .loop x w b, hL, hM, h => by
    unfold Stm.ok at h
    unfold Stm.sh
    exact ⟨h.1.hi, h.2.1, okL_sh A (mem_snoc hL h.1) hM h.2.2⟩
  | L, M, .mark x b, hL, hM, h => by
    unfold Stm.ok at h
    unfold Stm.sh
    exact ⟨h.1.hi, okL_sh A hL (mem_snoc hM h.1) h.2⟩
  | L, M, .cond t a b, hL, hM, h => by
    unfold Stm.ok at h
    unfold Stm.sh
    exact ⟨tst_sh A hL hM h.1, h.2.1, okL_sh A hL hM h.2.2.1, okL_sh A hL hM h.2.2.2⟩
  | L, M, .leaf w x, hL, hM, h => by
    unfold Stm.ok leafOk at h
    unfold Stm.sh
    rcases h with ⟨hw, hx⟩ | ⟨rfl, hx, _⟩ | ⟨rfl, _, hx, _⟩
    · refine ⟨?_, Nat.le_trans (hM x hx).hi (by omega)⟩
      rcases hw with rfl | rfl
      · exact .inl rfl
      · exact .inr (.inl rfl)
    · exact ⟨.inr (.inr (.inl rfl)), Nat.le_trans (hL x hx).hi (by omega)⟩
    · exact ⟨.inr (.inr (.inr rfl)), hx⟩
theorem okL_sh {al pr : Str} (A : Alph al) : ∀ {L M : List Str} {b : List Stm}, (∀ x ∈ L, NameOk x) → (∀ x ∈ M, NameOk x) → okL al pr L M b → shL b
  | L, M, [], _, _, _ => by unfold shL; exact trivial
  | L, M, s :: r, hL, hM, h => by
    have k := okL_cons.mp h
    exact shL_cons.mpr ⟨stm_sh A hL hM k.1, okL_sh A hL hM k.2⟩
end
theorem Drawn.sh {al pr : Str} {b : List Stm} (h : Drawn al pr b) : shL b := okL_sh h.hal (by simp) (by simp) h.ok
theorem len_le {w : Str} {n : Nat} (l : List Str) (h : w ∈ l) (k : ∀ x ∈ l, x.length ≤ n) : w.length ≤ n := k w h
theorem atW_len {w : Str} (h : P3W w) : (tl (atW w)).length ≤ 6 := by
  rcases h with rfl | rfl | rfl <;> decide +kernel
theorem BiW.len {w : Str} (h : BiW w) : (tl w).length ≤ 3 := by
  rcases h with rfl | rfl <;> decide +kernel
theorem LfW.len {w : Str} (h : LfW w) : (tl w).length ≤ 5 := by
  rcases h with rfl | rfl | rfl | rfl <;> decide +kernel
theorem UpW.len {w : Str} (h : UpW w) : (tl w).length ≤ 4 := by
  rcases h with rfl | rfl <;> decide +kernel
theorem q1 : (qs " ").length = 1 := by decide +kernel
theorem q2 : (qs "not ").length = 4 := by decide +kernel
theorem q3 : (qs "(").length = 1 := by decide +kernel
theorem q4 : (qs ")").length = 1 := by decide +kernel
theorem q5 : (qs "for ").length = 4 := by decide +kernel
theorem q6 : (qs "mark ").length = 5 := by decide +kernel
theorem q7 : (qs "if ").length = 3 := by decide +kernel
theorem q8 : (qs ":").length = 1 := by decide +kernel
theorem q9 : (qs "else:").length = 5 := by decide +kernel
theorem q10 : (qs "pass").length = 4 := by decide +kernel
theorem q11 : (qs "  ").length = 2 := by decide +kernel
theorem tx_len : ∀ {t : Tst}, t.sh → t.tx.length + 7 ≤ 55 * 2 ^ t.dep
  | .p3 w x y, h => by
    unfold Tst.sh at h
    have := atW_len h.1
    have hx := h.2.1
    have hy := h.2.2
    rw [len_tl] at hx hy
    simp only [Tst.tx, Tst.dep, List.length_append, q1]
    omega
  | .mk m, h => by
    unfold Tst.sh at h
    rw [len_tl] at h
    simp only [Tst.tx, Tst.dep]
    omega
  | .no t, h => by
    unfold Tst.sh at h
    have ih := tx_len h
    have : 1 ≤ 2 ^ t.dep := Nat.one_le_two_pow
    simp only [Tst.tx, Tst.dep, List.length_append, q2, Nat.pow_succ]
    omega
  | .bi w a b, h => by
    unfold Tst.sh at h
    have i1 := tx_len h.2.1
    have i2 := tx_len h.2.2
    have hw := h.1.len
    have m1 : 2 ^ a.dep ≤ 2 ^ max a.dep b.dep := Nat.pow_le_pow_right (by omega) (Nat.le_max_left _ _)
    have m2 : 2 ^ b.dep ≤ 2 ^ max a.dep b.dep := Nat.pow_le_pow_right (by omega) (Nat.le_max_right _ _)
    simp only [Tst.tx, Tst.dep, List.length_append, q1, q3, q4, Nat.pow_succ]
    omega
theorem tx_short {t : Tst} (h : t.sh) (d : t.dep ≤ 4) : t.tx.length ≤ 873 := by
  have := tx_len h
  have : 2 ^ t.dep ≤ 2 ^ 4 := Nat.pow_le_pow_right (by omega) d
  omega
def pad (ind : List Nat) : List Stm → List (List Nat) → List (List Nat)
  | [], _ => [ind ++ qs "pass"]
  | _ :: _, l => l
def els (ind : List Nat) : List Stm → List (List Nat) → List (List Nat)
  | [], _ => []
  | _ :: _, l => (ind ++ qs "else:") :: l
/-- the first line of a statement -/
def Stm.hd : Stm → List Nat
  | .loop x w _ => qs "for " ++ (tl x ++ (qs " " ++ (tl w ++ qs ":")))
  | .mark x _ => qs "mark " ++ (tl x ++ qs ":")
  | .cond t _ _ => qs "if " ++ (t.tx ++ qs ":")
  | .leaf w x => tl w ++ (qs " " ++ tl x)
mutual
def Stm.lns (ind : List Nat) : Stm → List (List Nat)
  | .loop x w b => (ind ++ Stm.hd (.loop x w b)) :: pad (ind ++ qs "  ") b (lnsL (ind ++ qs "  ") b)
  | .mark x b => (ind ++ Stm.hd (.mark x b)) :: pad (ind ++ qs "  ") b (lnsL (ind ++ qs "  ") b)
  | .cond t a b => (ind ++ Stm.hd (.cond t a b)) :: (pad (ind ++ qs "  ") a (lnsL (ind ++ qs "  ") a) ++ els ind b (lnsL (ind ++ qs "  ") b))
  | .leaf w x => [ind ++ Stm.hd (.leaf w x)]
def lnsL (ind : List Nat) : List Stm → List (List Nat)
  | [] => []
  | s :: r => s.lns ind ++ lnsL ind r
end
/-- the lines of a block -/
def blk (ind : List Nat) (b : List Stm) : List (List Nat) := pad ind b (lnsL ind b)
def cost (l : List (List Nat)) : Nat := (l.map fun x => x.length + 1).sum
theorem cost_append (a b : List (List Nat)) : cost (a ++ b) = cost a + cost b := by simp [cost]
theorem cost_cons (x : List Nat) (b : List (List Nat)) : cost (x :: b) = x.length + 1 + cost b := by simp [cost]
theorem cost_len : ∀ (l : List (List Nat)), l.length ≤ cost l
  | [] => Nat.zero_le _
  | x :: r => by
    have := cost_len r
    rw [cost_cons, List.length_cons]
    omega
theorem pad_cost {ind : List Nat} {b : List Stm} {l : List (List Nat)} (h : ind.length ≤ 62) : cost (pad ind b l) ≤ cost l + 67 := by
  cases b with
  | nil => simp only [pad, cost_cons, List.length_append, q10]; simp [cost]; omega
  | cons s r => simp only [pad]; omega
theorem els_cost {ind : List Nat} {b : List Stm} {l : List (List Nat)} (h : ind.length ≤ 60) : cost (els ind b l) ≤ cost l + 66 := by
  cases b with
  | nil => simp only [els]; simp [cost]
  | cons s r => simp only [els, cost_cons, List.length_append, q9]; omega
mutual
theorem lns_cost : ∀ {ind : List Nat} {s : Stm}, s.sh → ind.length + 2 * s.dep ≤ 62 → cost (s.lns ind) ≤ s.wt
  | ind, .loop x w b, h, hd => by
    unfold Stm.sh at h
    unfold Stm.dep at hd
    have hx := h.1
    rw [len_tl] at hx
    have hw := h.2.1.len
    have hi : (ind ++ qs "  ").length ≤ 62 := by rw [List.length_append, q11]; omega
    have ih := lnsL_cost (ind := ind ++ qs "  ") h.2.2 (by rw [List.length_append, q11]; omega)
    have hp := pad_cost (b := b) (l := lnsL (ind ++ qs "  ") b) hi
    simp only [Stm.lns, Stm.wt, Stm.hd, cost_cons, List.length_append, q1, q5, q8]
    omega
  | ind, .mark x b, h, hd => by
    unfold Stm.sh at h
    unfold Stm.dep at hd
    have hx := h.1
    rw [len_tl] at hx
    have hi : (ind ++ qs "  ").length ≤ 62 := by rw [List.length_append, q11]; omega
    have ih := lnsL_cost (ind := ind ++ qs "  ") h.2 (by rw [List.length_append, q11]; omega)
    have hp := pad_cost (b := b) (l := lnsL (ind ++ qs "  ") b) hi
    simp only [Stm.lns, Stm.wt, Stm.hd, cost_cons, List.length_append, q6, q8]
    omega
  | ind, .cond t a b, h, hd => by
    unfold Stm.sh at h
    unfold Stm.dep at hd
    have ht := tx_short h.1 h.2.1
    have hi : (ind ++ qs "  ").length ≤ 62 := by rw [List.length_append, q11]; omega
    have i1 := lnsL_cost (ind := ind ++ qs "  ") h.2.2.1 (by rw [List.length_append, q11]; omega)
    have i2 := lnsL_cost (ind := ind ++ qs "  ") h.2.2.2 (by rw [List.length_append, q11]; omega)
    have hp := pad_cost (b := a) (l := lnsL (ind ++ qs "  ") a) hi
    have he := els_cost (ind := ind) (b := b) (l := lnsL (ind ++ qs "  ") b) (by omega)
    simp only [Stm.lns, Stm.wt, Stm.hd, cost_cons, cost_append, List.length_append, q7, q8]
    omega
  | ind, .leaf w x, h, hd => by
    unfold Stm.sh at h
    unfold Stm.dep at hd
    have hx := h.2
    rw [len_tl] at hx
    have hw := h.1.len
    simp only [Stm.lns, Stm.wt, Stm.hd, cost_cons, List.length_append, q1, show cost [] = 0 from rfl]
    omega
theorem lnsL_cost : ∀ {ind : List Nat} {b : List Stm}, shL b → ind.length + 2 * depL b ≤ 62 → cost (lnsL ind b) ≤ wtL b
  | ind, [], h, hd => by unfold lnsL wtL; exact Nat.le_refl _
  | ind, s :: r, h, hd => by
    have k := shL_cons.mp h
    unfold depL at hd
    unfold lnsL wtL
    rw [cost_append]
    have i1 := lns_cost (ind := ind) k.1 (by omega)
    have i2 := lnsL_cost (ind := ind) k.2 (by omega)
    omega
end
theorem lnsL_append (ind : List Nat) : ∀ (a b : List Stm), lnsL ind (a ++ b) = lnsL ind a ++ lnsL ind b
  | [], b => by simp [lnsL]
  | s :: r, b => by
    show s.lns ind ++ lnsL ind (r ++ b) = (s.lns ind ++ lnsL ind r) ++ lnsL ind b
    rw [lnsL_append ind r b, List.append_assoc]
theorem lnsL_one (ind : List Nat) (s : Stm) : lnsL ind [s] = s.lns ind := by unfold lnsL; unfold lnsL; simp
theorem sh_append {a b : List Stm} : shL a → shL b → shL (a ++ b) := by
  induction a with
  | nil => exact fun _ h => h
  | cons s r ih => exact fun h k => shL_cons.mpr ⟨(shL_cons.mp h).1, ih (shL_cons.mp h).2 k⟩
/-! ### how deep and how wide the data of a program is -/
theorem tst_dep : ∀ (t : Tst), t.enc.dep ≤ t.dep + 1
  | .p3 w x y => by simp [Tst.enc, Tst.dep, D.dep, D.depL]
  | .mk m => by simp [Tst.enc, Tst.dep, D.dep, D.depL]
  | .no t => by
    have := tst_dep t
    simp [Tst.enc, Tst.dep, D.dep, D.depL]
    omega
  | .bi w a b => by
    have := tst_dep a
    have := tst_dep b
    simp [Tst.enc, Tst.dep, D.dep, D.depL]
    omega
theorem tst_fit : ∀ (t : Tst), t.enc.fit
  | .p3 w x y => by simp [Tst.enc, D.fit, D.fitL, sizeLine]
  | .mk m => by simp [Tst.enc, D.fit, D.fitL, sizeLine]
  | .no t => by
    have := tst_fit t
    simp [Tst.enc, D.fit, D.fitL, sizeLine, this]
  | .bi w a b => by
    have h1 := tst_fit a
    have h2 := tst_fit b
    simp [Tst.enc, D.fit, D.fitL, sizeLine, h1, h2]
mutual
theorem stm_dep : ∀ (s : Stm), s.sh → s.enc.dep ≤ 2 * s.dep + 6
  | .loop x w b, h => by
    unfold Stm.sh at h
    have := encL_dep b h.2.2
    simp [Stm.enc, Stm.dep, D.dep, D.depL]
    omega
  | .mark x b, h => by
    unfold Stm.sh at h
    have := encL_dep b h.2
    simp [Stm.enc, Stm.dep, D.dep, D.depL]
    omega
  | .cond t a b, h => by
    unfold Stm.sh at h
    have := encL_dep a h.2.2.1
    have := encL_dep b h.2.2.2
    have := tst_dep t
    have := h.2.1
    simp [Stm.enc, Stm.dep, D.dep, D.depL]
    omega
  | .leaf w x, h => by simp [Stm.enc, Stm.dep, D.dep, D.depL]
theorem encL_dep : ∀ (b : List Stm), shL b → D.depL (encL b) ≤ 2 * depL b + 6
  | [], h => by simp [encL, depL, D.depL]
  | s :: r, h => by
    have k := shL_cons.mp h
    have := stm_dep s k.1
    have := encL_dep r k.2
    simp only [encL, depL, D.depL]
    omega
end
theorem len_wt : ∀ (b : List Stm), b.length ≤ wtL b
  | [] => Nat.zero_le _
  | s :: r => by
    have := len_wt r
    have : 1 ≤ s.wt := by
      cases s <;> simp only [Stm.wt] <;> omega
    rw [List.length_cons]
    unfold wtL
    omega
mutual
theorem stm_fit : ∀ (s : Stm), s.wt ≤ 10000000 → s.enc.fit
  | .loop x w b, h => by
    unfold Stm.wt at h
    have h1 := encL_fit b (by omega)
    have h2 := len_wt b
    simp [Stm.enc, D.fit, D.fitL, sizeLine, h1, encL_len]
    omega
  | .mark x b, h => by
    unfold Stm.wt at h
    have h1 := encL_fit b (by omega)
    have h2 := len_wt b
    simp [Stm.enc, D.fit, D.fitL, sizeLine, h1, encL_len]
    omega
  | .cond t a b, h => by
    unfold Stm.wt at h
    have h1 := encL_fit a (by omega)
    have h2 := len_wt a
    have h3 := encL_fit b (by omega)
    have h4 := len_wt b
    have h5 := tst_fit t
    simp [Stm.enc, D.fit, D.fitL, sizeLine, h1, h3, h5, encL_len]
    omega
  | .leaf w x, h => by simp [Stm.enc, D.fit, D.fitL, sizeLine]
theorem encL_fit : ∀ (b : List Stm), wtL b ≤ 10000000 → D.fitL (encL b)
  | [], h => by simp [encL, D.fitL]
  | s :: r, h => by
    unfold wtL at h
    have h1 := stm_fit s (by omega)
    have h2 := encL_fit r (by omega)
    simp only [encL, D.fitL]
    exact ⟨h1, h2⟩
end
theorem Drawn.fit {al pr : Str} {b : List Stm} (h : Drawn al pr b) : (D.n (encL b)).fit := by
  unfold D.fit
  have := h.len
  exact ⟨by rw [encL_len]; exact small1000 (by omega), encL_fit b h.wt⟩
theorem Drawn.dp {al pr : Str} {b : List Stm} (h : Drawn al pr b) : (D.n (encL b)).dep < 70 := by
  have := encL_dep b h.sh
  have := h.dep
  rw [D.dep_n]
  omega
end TW
/-! F3 -/
set_option Elab.async false
set_option linter.all false
set_option maxRecDepth 100000
set_option maxHeartbeats 4000000
namespace TW
open PySem L2 TL
local macro_rules | `(tactic| walk_at "rd") => `(tactic| simp only [tSeq, tAsg, tOp, tUn, tVar, tCB, tCons, tNil, tRet, tDrop, gName, gSub, gTup, gCons, gNil, rI, rI0, rU, rIxL, rIxT, rIxS, rSetL, tC, L2.start, cxOf, tIfS, tIf, tTest, tB, tAnd, tOr, tNot, tAndV, tOrV, tNotV, tChain, tTup, tLst, tCall, tNext, tNever,
  rEq, rNe, tBM, tBM0, rCat, rRep, rIn, tSl, rSlL, rSlT, rSlS, rAll, rAny, rSortedS, rAppend, rPop, rExtend, tyV, tFld, tM1, tJs, tRev, tKGet, rRvL, rRvT, rRvS, rExtendT, rLstS, rRepS, tNoPart, tPart, tYes, StX.tStar, wipe, tFmtS, rIxD, tOrT, tMake, tMakeK, tCallN,
  List.map, List.length, List.replicate, List.append, List.nil_append, List.cons_append, List.append_nil, List.set, Nat.zero_add, Nat.add_zero, Nat.reduceAdd, Nat.reduceSub, List.getElem?_cons_zero, List.getElem?_cons_succ, List.length_cons, List.length_nil, List.set_cons_zero, List.set_cons_succ, List.getElem?_nil, Option.some.injEq, V.ref.injEq, V.int.injEq, V.str.injEq, V.bl.injEq, List.cons.injEq, and_true, true_and, exists_eq_left, exists_eq_left', exists_eq', exists_eq, exists_and_left, exists_const, reduceCtorEq, false_or, or_false, true_or, or_true, false_and, and_false, and_assoc, if_true, if_false, Bool.false_eq_true, Bool.true_eq_false])
local macro_rules | `(tactic| walk_at "rdd") => `(tactic| simp only [tSeq, tAsg, tOp, tUn, tVar, tCB, tCons, tNil, tRet, tDrop, gName, gSub, gTup, gCons, gNil, rI, rI0, rU, rIxL, rIxT, rIxS, rSetL, tC, L2.start, cxOf, tIfS, tIf, tTest, tB, tAnd, tOr, tNot, tAndV, tOrV, tNotV, tChain, tTup, tLst, tCall, tNext, tNever,
  rEq, rNe, tBM, tBM0, rCat, rRep, rIn, tSl, rSlL, rSlT, rSlS, rAll, rAny, rSortedS, rAppend, rPop, rExtend, tyV, tFld, tM1, tJs, tRev, tKGet, rRvL, rRvT, rRvS, rExtendT, rLstS, rRepS, tNoPart, tPart, tYes, StX.tStar, wipe, tFmtS, rIxD, tOrT, tMake, tMakeK, tCallN, tFor, tWhile, tLc, iList, iTup, iSeq, iStr, iRng1, iRng2, iEnumS, iZipS,
  List.map, List.length, List.replicate, List.append, List.nil_append, List.cons_append, List.append_nil, List.set, Nat.zero_add, Nat.add_zero, Nat.reduceAdd, Nat.reduceSub, List.getElem?_cons_zero, List.getElem?_cons_succ, List.length_cons, List.length_nil, List.set_cons_zero, List.set_cons_succ, List.getElem?_nil, Option.some.injEq, V.ref.injEq, V.int.injEq, V.str.injEq, V.bl.injEq, List.cons.injEq, and_true, true_and, exists_eq_left, exists_eq_left', exists_eq', exists_eq, exists_and_left, exists_const, reduceCtorEq, false_or, or_false, true_or, or_true, false_and, and_false, and_assoc, if_true, if_false, Bool.false_eq_true, Bool.true_eq_false])
section
variable {P : Program} {w : World} {K : PySem.W.Frag} {mg : Str → Option Value} {base : Heap} {f g : Addr} {fd gd : FuncData}
def Sq (H : Hp) (a : Addr) (xs : List V) : Prop := H a = some (.tup xs) ∨ H a = some (.lst xs)
theorem ixR {K : PySem.W.Frag} {H : Hp} {a : Addr} {xs : List V} {u : V} {Q : VK} {i : Int} (j : Nat) (hi : i = (j : Int)) (h : Sq H a xs) (e : xs[j]? = some u) (q : Q u H) : rIx K (.ref a) (.int i) H Q := by
  subst hi
  rcases h with h | h
  · exact .inr (.inl ⟨a, xs, j, u, rfl, rfl, SqT.of h, at_ofN e, q⟩)
  · exact .inl ⟨a, xs, j, u, rfl, rfl, SqL.of h, at_ofN e, q⟩
theorem Rep.sq {m : Bool} {H : Hp} {v : V} {ds : List D} (h : Rep m H v (.n ds)) : ∃ a xs, v = .ref a ∧ Sq H a xs ∧ RepL m H xs ds := by
  obtain ⟨a, xs, e, h1, h2⟩ := Rep.seqIff.mp h
  exact ⟨a, xs, e, h1.imp id And.right, h2⟩
theorem rep2s {m : Bool} {H : Hp} {v : V} {x : Str} {d : D} (h : Rep m H v (.n [.s x, d])) : ∃ a u, v = .ref a ∧ Sq H a [.str x, u] ∧ Rep m H u d := by
  obtain ⟨a, xs, e, hs, hL⟩ := h.sq
  obtain ⟨x0, r0, rfl, h0, hL0⟩ := RepL.consIff.mp hL
  obtain ⟨x1, r1, rfl, h1, hL1⟩ := RepL.consIff.mp hL0
  cases Rep.strIff.mp h0
  cases RepL.nilIff.mp hL1
  exact ⟨a, x1, e, hs, h1⟩
theorem rep3s {m : Bool} {H : Hp} {v : V} {x : Str} {d d' : D} (h : Rep m H v (.n [.s x, d, d'])) : ∃ a u u', v = .ref a ∧ Sq H a [.str x, u, u'] ∧ Rep m H u d ∧ Rep m H u' d' := by
  obtain ⟨a, xs, e, hs, hL⟩ := h.sq
  obtain ⟨x0, r0, rfl, h0, hL0⟩ := RepL.consIff.mp hL
  obtain ⟨x1, r1, rfl, h1, hL1⟩ := RepL.consIff.mp hL0
  obtain ⟨x2, r2, rfl, h2, hL2⟩ := RepL.consIff.mp hL1
  cases Rep.strIff.mp h0
  cases RepL.nilIff.mp hL2
  exact ⟨a, x1, x2, e, hs, h1, h2⟩
theorem rep4s {m : Bool} {H : Hp} {v : V} {x : Str} {d d' d2 : D} (h : Rep m H v (.n [.s x, d, d', d2])) : ∃ a u u' u2, v = .ref a ∧ Sq H a [.str x, u, u', u2] ∧ Rep m H u d ∧ Rep m H u' d' ∧ Rep m H u2 d2 := by
  obtain ⟨a, xs, e, hs, hL⟩ := h.sq
  obtain ⟨x0, r0, rfl, h0, hL0⟩ := RepL.consIff.mp hL
  obtain ⟨x1, r1, rfl, h1, hL1⟩ := RepL.consIff.mp hL0
  obtain ⟨x2, r2, rfl, h2, hL2⟩ := RepL.consIff.mp hL1
  obtain ⟨x3, r3, rfl, h3, hL3⟩ := RepL.consIff.mp hL2
  cases Rep.strIff.mp h0
  cases RepL.nilIff.mp hL3
  exact ⟨a, x1, x2, x3, e, hs, h1, h2, h3⟩
theorem Sq.ev {H H' : Hp} {l : List Addr} {a : Addr} {x : Str} {xs : List V} (h : Sq H a (.str x :: xs)) (e : Ev l H H') : Sq H' a (.str x :: xs) := h.imp (fun h => e.obj h fun i => by simp) (fun h => e.obj h fun i q => by simp at q)
theorem Sq.len {K : PySem.W.Frag} {H : Hp} {a : Addr} {xs : List V} (h : Sq H a xs) : SqL K H a xs ∨ SqT K H a xs := h.symm.imp SqL.of SqT.of
theorem eqT {w : Str} {A B : Prop} (q : A) : scal (.str w) (.str w) = true ∧ (if decide (V.str w = V.str w) = true then A else B) := ⟨rfl, by rw [if_pos (by simp)]; exact q⟩
theorem neT {w w' : Str} {A B : Prop} (h : w ≠ w') (q : B) : scal (.str w) (.str w') = true ∧ (if decide (V.str w = V.str w') = true then A else B) := ⟨rfl, by rw [if_neg (by simpa using h)]; exact q⟩
theorem szl : sizeLine = 16777216 := by decide
def spWtest (m : Nat) : Sp := fun vs H Q _ => ∃ (v : V) (t : Tst), vs = [v] ∧ Rep false H v t.enc ∧ t.sh ∧ t.dep < m ∧ t.dep ≤ 4 ∧ ∀ (z : Str) (H' : Hp), Ev [] H H' → tl z = t.tx → Q (.str z) H'
theorem ok_wtest {m : Nat} (F : Fun K "_law_written_test" "_law_written_test" s__law_written_test f fd) (T : Bt mg) (C__law_written_test : Cl P w K mg base "_law_written_test" (m + 1) ["test"] (spWtest m)) : FnOk P w K mg base CX0 (m + 2) f fd ["test"] (spWtest (m + 1)) := by
  refine F.ok sc__law_written_test (fun vs H Q E h => ?_) (fun cdv A outer s H vs Q E hr h => ?_)
  · obtain ⟨v, t, rfl, _⟩ := h
    rfl
  obtain ⟨v, t, rfl, hR, hs, hm, h5, q⟩ := h
  refine ⟨_, (pss_cons (ps_if (pt_cmpR op_eq (pe_ix (r := rIx K) ix_seq (pv 0) pe_int (fun _ _ => rfl)) pe_str (nomark _)) (pss_one (ps_ret (pe_ix (r := rIx K) ix_seq (pv 0) pe_int (fun _ _ => rfl)))) pss_nil)
        (pss_cons (ps_if (pt_cmpR op_eq (pe_ix (r := rIx K) ix_seq (pv 0) pe_int (fun _ _ => rfl)) pe_str (nomark _)) (pss_one (ps_ret (pe_op op_add_str pe_str (pe_call C__law_written_test.ok (hr.mono (by omega)) (by rfl) C__law_written_test.mg C__law_written_test.kp C__law_written_test.b .nil pass0 (pa_cons (pe_ix (r := rIx K) ix_seq (pv 0) pe_int (fun _ _ => rfl)) pa_nil))))) pss_nil)
        (pss_cons (ps_if (PW.pt (pw_or (pt_cmpR op_eq (pe_ix (r := rIx K) ix_seq (pv 0) pe_int (fun _ _ => rfl)) pe_str (nomark _)) (pw_or1 (pt_cmpR op_eq (pe_ix (r := rIx K) ix_seq (pv 0) pe_int (fun _ _ => rfl)) pe_str (nomark _))))) (pss_one (ps_ret (pe_op op_add_str (pe_op op_add_str (pe_op op_add_str (pe_op op_add_str (pe_op op_add_str (pe_op op_add_str pe_str (pe_call C__law_written_test.ok (hr.mono (by omega)) (by rfl) C__law_written_test.mg C__law_written_test.kp C__law_written_test.b .nil pass0 (pa_cons (pe_ix (r := rIx K) ix_seq (pv 0) pe_int (fun _ _ => rfl)) pa_nil))) pe_str) (pe_ix (r := rIx K) ix_seq (pv 0) pe_int (fun _ _ => rfl))) pe_str) (pe_call C__law_written_test.ok (hr.mono (by omega)) (by rfl) C__law_written_test.mg C__law_written_test.kp C__law_written_test.b .nil pass0 (pa_cons (pe_ix (r := rIx K) ix_seq (pv 0) pe_int (fun _ _ => rfl)) pa_nil))) pe_str))) pss_nil)
        (pss_one (ps_ret (pe_op op_add_str (pe_op op_add_str (pe_op op_add_str (pe_op op_add_str (pe_ix (r := rIx K) ix_seq (pv 0) pe_int (fun _ _ => rfl)) pe_str) (pe_ix (r := rIxL K) ix_list (pe_lst (pa_cons (pe_ix (r := rIx K) ix_seq (pv 0) pe_int (fun _ _ => rfl)) (pa_cons pe_str pa_nil))) (pe_callTy call_int1 (by rfl) T.b_int (by decide +kernel) (pa_cons (pe_cmpR op_eq (pe_ix (r := rIx K) ix_seq (pv 0) pe_int (fun _ _ => rfl)) pe_str (nomark _)) pa_nil)) (fun _ _ => rfl))) pe_str) (pe_ix (r := rIx K) ix_seq (pv 0) pe_int (fun _ _ => rfl)))))))), ?_⟩
  walk_at "rd"
  have hlen := tx_short hs h5
  cases t with
  | mk x =>
    unfold Tst.enc at hR
    obtain ⟨a, u, rfl, ha, hu⟩ := rep2s hR
    cases Rep.strIff.mp hu
    exact ixR 0 rfl ha rfl (eqT (ixR 1 rfl ha rfl (q _ _ (Ev.refl _) rfl)))
  | no t =>
    unfold Tst.enc at hR
    unfold Tst.sh at hs
    unfold Tst.dep at hm h5
    obtain ⟨a, u, rfl, ha, hu⟩ := rep2s hR
    refine ixR 0 rfl ha rfl (neT (by decide +kernel) (ixR 0 rfl ha rfl (eqT (ixR 1 rfl ha rfl ⟨u, t, rfl, hu, hs, by omega, by omega, fun z H1 e1 hz => ⟨z, rfl, ?_, q _ _ e1 ?_⟩⟩))))
    · have := congrArg List.length hz
      simp only [Tst.tx, List.length_append, q2] at hlen
      simp only [len_tl, q2, szl]
      omega
    · rw [tl_append, hz]
      rfl
  | bi x t1 t2 =>
    unfold Tst.enc at hR
    unfold Tst.sh at hs
    unfold Tst.dep at hm h5
    obtain ⟨a, u1, u2, rfl, ha, hu1, hu2⟩ := rep3s hR
    have hx := hs.1
    have key : ∀ {Q2 : VK}, (∀ (z : Str) (H' : Hp), Ev [] H H' → tl z = (Tst.bi x t1 t2).tx → Q2 (.str z) H') → rIx K (.ref a) (.int 1) H fun x_4 H1 => spWtest m [x_4] H1 (fun y H2 => ∃ x, y = V.str x ∧ (Str.ofString "(").length + x.length ≤ sizeLine ∧ (Str.ofString "(" ++ x).length + (Str.ofString " ").length ≤ sizeLine ∧
        rIx K (.ref a) (V.int 0) H2 fun y H2 => ∃ x_1, y = V.str x_1 ∧ (Str.ofString "(" ++ x ++ Str.ofString " ").length + x_1.length ≤ sizeLine ∧ (Str.ofString "(" ++ x ++ Str.ofString " " ++ x_1).length + (Str.ofString " ").length ≤ sizeLine ∧
          rIx K (.ref a) (V.int 2) H2 fun x_2 H1 => spWtest m [x_2] H1 (fun y H2 => ∃ x_3, y = V.str x_3 ∧ (Str.ofString "(" ++ x ++ Str.ofString " " ++ x_1 ++ Str.ofString " ").length + x_3.length ≤ sizeLine ∧
            (Str.ofString "(" ++ x ++ Str.ofString " " ++ x_1 ++ Str.ofString " " ++ x_3).length + (Str.ofString ")").length ≤ sizeLine ∧ Q2 (V.str (Str.ofString "(" ++ x ++ Str.ofString " " ++ x_1 ++ Str.ofString " " ++ x_3 ++ Str.ofString ")")) H2) E0) E0 := by
      intro Q2 q2'
      have hxl := hx.len
      have l1 := tx_short hs.2.1 (by omega)
      have l2 := tx_short hs.2.2 (by omega)
      refine ixR 1 rfl ha rfl ⟨u1, t1, rfl, hu1, hs.2.1, by omega, by omega, fun z1 H1 e1 hz1 => ⟨z1, rfl, ?_, ?_, ixR 0 rfl (ha.ev e1) rfl ⟨x, rfl, ?_, ?_, ixR 2 rfl (ha.ev e1) rfl ⟨u2, t2, rfl, hu2.ev e1, hs.2.2, by omega, by omega, fun z2 H2 e2 hz2 => ⟨z2, rfl, ?_, ?_, q2' _ _ (e1.trans e2) ?_⟩⟩⟩⟩⟩
      all_goals first
        | (simp only [len_tl, tl_append, List.length_append, hz1, hz2, q1, q3, q4, szl]; omega)
        | (simp only [len_tl, tl_append, List.length_append, hz1, q1, q3, q4, szl]; omega)
        | (simp only [tl_append, hz1, hz2, Tst.tx, List.append_assoc])
    rcases hx with rfl | rfl
    · exact ixR 0 rfl ha rfl (neT (by decide +kernel) (ixR 0 rfl ha rfl (neT (by decide +kernel) (ixR 0 rfl ha rfl (eqT (key q))))))
    · exact ixR 0 rfl ha rfl (neT (by decide +kernel) (ixR 0 rfl ha rfl (neT (by decide +kernel) (ixR 0 rfl ha rfl (neT (by decide +kernel) (ixR 0 rfl ha rfl (eqT (key q))))))))
  | p3 x y z =>
    unfold Tst.enc at hR
    unfold Tst.sh at hs
    obtain ⟨a, u1, u2, rfl, ha, hu1, hu2⟩ := rep3s hR
    cases Rep.strIff.mp hu1
    cases Rep.strIff.mp hu2
    have hx := hs.1
    have aw := atW_len hx
    have hy := hs.2.1
    have hz := hs.2.2
    rw [len_tl] at hy hz
    have n1 : x ≠ Str.ofString "mark" := by rcases hx with rfl | rfl | rfl <;> decide +kernel
    have n2 : x ≠ Str.ofString "not" := by rcases hx with rfl | rfl | rfl <;> decide +kernel
    have n3 : x ≠ Str.ofString "and" := by rcases hx with rfl | rfl | rfl <;> decide +kernel
    have n4 : x ≠ Str.ofString "or" := by rcases hx with rfl | rfl | rfl <;> decide +kernel
    refine ixR 0 rfl ha rfl (neT n1 (ixR 0 rfl ha rfl (neT n2 (ixR 0 rfl ha rfl (neT n3 (ixR 0 rfl ha rfl (neT n4 (ixR 1 rfl ha rfl ⟨y, rfl, ?_, ixR 0 rfl ha rfl ⟨by decide, fun p hp => ?_⟩⟩))))))))
    · simp only [len_tl, q1, szl]
      omega
    have e1 : Ev [] H (upd H p (.lst [.str x, .str (Str.ofString "at")])) := Ev.new hp _
    refine ixR 0 rfl (ha.ev e1) rfl ⟨rfl, _, SqL.of upd_same, .str (atW x), ?_, atW x, rfl, ?_, ?_, ixR 2 rfl (ha.ev e1) rfl ⟨z, rfl, ?_, q _ _ e1 ?_⟩⟩
    · rcases hx with rfl | rfl | rfl <;> rfl
    all_goals first
        | (simp only [len_tl, tl_append, List.length_append, q1, szl]; omega)
        | (simp only [tl_append, Tst.tx, List.append_assoc])
theorem Sq.evR {m : Bool} {H H' : Hp} {l : List Addr} {a : Addr} {xs : List V} {ds : List D} (h : Sq H a xs) (r : RepL m H xs ds) (e : Ev l H H') : Sq H' a xs := h.imp (fun h => e.kp.t _ _ h) (fun h => e.kp.l _ _ r.items h)
theorem Sq.same {H H' : Hp} {a : Addr} {xs : List V} (h : Sq H a xs) (h' : Sq H' a xs) (e : H' a = H a ∨ True) : True := trivial
theorem Sq.keep {m : Bool} {H H' : Hp} {l : List Addr} {a : Addr} {xs : List V} {ds : List D} (h : Sq H a xs) (r : RepL m H xs ds) (e : Ev l H H') : H' a = H a := by
  rcases h with h | h
  · rw [h, e.kp.t _ _ h]
  · rw [h, e.kp.l _ _ r.items h]
theorem snoc_map (ys : List Str) (z : Str) : ys.map V.str ++ [V.str z] = (ys ++ [z]).map V.str := by rw [List.map_append]; rfl
theorem cat_map (ys zs : List Str) : ys.map V.str ++ zs.map V.str = (ys ++ zs).map V.str := by rw [List.map_append]
local macro_rules | `(tactic| walk_at "len") => `(tactic| (simp only [len_tl, tl_append, List.length_append, List.length_map, List.length_cons, List.length_nil, q1, q2, q3, q4, q5, q6, q7, q8, q9, q10, q11, szl] at *; omega))
theorem forSeq {K : PySem.W.Frag} {tl : TE} {g : TG} {tb : TS} {D : Ends} {σ : St} {H : Hp} {a : Addr} {xs : List V} (Pv : Nat → St → Hp → Prop) (ht : ∀ R : VK, R (.ref a) H → tl σ H R) (hx : Sq H a xs) (h0 : Pv 0 σ H) (hk : ∀ i σ H', Pv i σ H' → H' a = H a)
    (hs : ∀ i x σ H', xs[i]? = some x → Pv i σ H' → g x σ H' fun σ2 H2 => tb { D with nx := Pv (i + 1), ct := Pv (i + 1), bk := D.nx } σ2 H2) (hd : ∀ σ H', Pv xs.length σ H' → D.nx σ H') : tFor (iSeq K tl) g tb D σ H := by
  unfold tFor iSeq
  refine ht _ ?_
  rcases hx with hx | hx
  · exact .inr ⟨a, rfl, ⟨xs, SqT.of hx⟩, for_tup (xs := xs) Pv h0 (fun i σ H' _ p => SqT.of ((hk i σ H' p).trans hx)) hs hd⟩
  · exact .inl ⟨a, rfl, ⟨xs, SqL.of hx⟩, for_list (xs := xs) Pv h0 (fun i σ H' _ p => SqL.of ((hk i σ H' p).trans hx)) hs hd⟩
theorem take_next {b : List Stm} {i : Nat} {s : Stm} (h : b[i]? = some s) : b.take (i + 1) = b.take i ++ [s] := by
  rw [List.take_succ, h]
  rfl
theorem take_bounds (b : List Stm) (i : Nat) : wtL (b.take i) ≤ wtL b ∧ depL (b.take i) ≤ depL b ∧ (shL b → shL (b.take i)) := by
  have e := List.take_append_drop i b
  refine ⟨?_, ?_, fun h => ?_⟩
  · have := wtL_append (b.take i) (b.drop i)
    rw [e] at this
    omega
  · have := depL_append (b.take i) (b.drop i)
    rw [e] at this
    omega
  · have : ∀ (l r : List Stm), shL (l ++ r) → shL l := by
      intro l
      induction l with
      | nil => exact fun r _ => by unfold shL; exact trivial
      | cons s l ih => exact fun r h => shL_cons.mpr ⟨(shL_cons.mp h).1, ih r (shL_cons.mp h).2⟩
    exact this _ (b.drop i) (by rw [e]; exact h)
theorem lns_count {ind : List Nat} {b : List Stm} {i : Nat} {s : Stm} (h : b[i]? = some s) (hs : shL b) (hd : ind.length + 2 * depL b ≤ 62) (hw : wtL b ≤ 10000000) : (lnsL ind (b.take i)).length + (s.lns ind).length ≤ 10000000 := by
  have tb := take_bounds b (i + 1)
  have h1 := lnsL_cost (ind := ind) (b := b.take (i + 1)) (tb.2.2 hs) (by omega)
  have h2 := cost_len (lnsL ind (b.take (i + 1)))
  have h3 : (lnsL ind (b.take (i + 1))).length = (lnsL ind (b.take i)).length + (s.lns ind).length := by rw [take_next h, lnsL_append, lnsL_one, List.length_append]
  omega
theorem dep_mem : ∀ {b : List Stm} {s : Stm}, s ∈ b → s.dep ≤ depL b
  | [], s, h => by cases h
  | t :: r, s, h => by
    unfold depL
    rcases List.mem_cons.mp h with rfl | h
    · omega
    · have := dep_mem h
      omega
theorem wt_mem : ∀ {b : List Stm} {s : Stm}, s ∈ b → s.wt ≤ wtL b
  | [], s, h => by cases h
  | t :: r, s, h => by
    unfold wtL
    rcases List.mem_cons.mp h with rfl | h
    · omega
    · have := wt_mem h
      omega
def spLines (m : Nat) : Sp := fun vs H Q _ => ∃ (v : Addr) (xs : List V) (b : List Stm) (z : Str), vs = [.ref v, .str z] ∧ Sq H v xs ∧ RepL false H xs (encL b) ∧ shL b ∧ depL b < m ∧ z.length + 2 * depL b ≤ 62 ∧ wtL b ≤ 10000000 ∧
  ∀ (p : Addr) (ys : List Str) (H' : Hp), Ev [] H H' → H p = none → H' p = some (.lst (ys.map V.str)) → ys.map tl = blk (tl z) b → Q (.ref p) H'
theorem ok_lines {m : Nat} (F : Fun K "_law_lines" "_law_lines" s__law_lines f fd) (T : Bt mg) (C__law_written_test : Cl P w K mg base "_law_written_test" 6 ["test"] (spWtest 5)) (C__law_lines : Cl P w K mg base "_law_lines" (m + 7) ["body", "indent"] (spLines m)) : FnOk P w K mg base CX0 (m + 8) f fd ["body", "indent"] (spLines (m + 1)) := by
  refine F.ok sc__law_lines (fun vs H Q E h => ?_) (fun cdv A outer s H vs Q E hr h => ?_)
  · obtain ⟨v, xs, b, z, rfl, _⟩ := h
    rfl
  obtain ⟨v, xs, b, z, rfl, hv, hL, hs, hm, hd, hw, q⟩ := h
  refine ⟨_, (pss_cons (ps_set (i := 2) sc__law_lines.nd rfl (by first | exact Or.inl rfl | exact Or.inr rfl) (pe_lst pa_nil))
        (pss_cons (ps_for PassesOwn.never (by rfl) (pi_seq (pv 0)) (pg_name (i := 3) sc__law_lines.nd rfl (by first | exact Or.inl rfl | exact Or.inr rfl)) (pss_one (ps_if (pt_cmpR op_eq (pe_ix (r := rIx K) ix_seq (pv 3) pe_int (fun _ _ => rfl)) pe_str (nomark _)) (pss_cons (ps_expr (pe_bm PySem.F.plainAttrs_list PySem.F.slot_list_append PySem.F.type_list_append mt_append (pv 2) (pa_cons (pe_op op_add_str (pe_op op_add_str (pe_op op_add_str (pe_op op_add_str (pe_op op_add_str (pv 1) pe_str) (pe_ix (r := rIx K) ix_seq (pv 3) pe_int (fun _ _ => rfl))) pe_str) (pe_ix (r := rIx K) ix_seq (pv 3) pe_int (fun _ _ => rfl))) pe_str) pa_nil)))
            (pss_one (ps_set (i := 2) sc__law_lines.nd rfl (by first | exact Or.inl rfl | exact Or.inr rfl) (pe_op op_cat (pv 2) (pe_call C__law_lines.ok (hr.mono (by omega)) (by rfl) C__law_lines.mg C__law_lines.kp C__law_lines.b .nil pass0 (pa_cons (pe_ix (r := rIx K) ix_seq (pv 3) pe_int (fun _ _ => rfl)) (pa_cons (pe_op op_add_str (pv 1) pe_str) pa_nil))))))) (pss_one (ps_if (pt_cmpR op_eq (pe_ix (r := rIx K) ix_seq (pv 3) pe_int (fun _ _ => rfl)) pe_str (nomark _)) (pss_cons (ps_expr (pe_bm PySem.F.plainAttrs_list PySem.F.slot_list_append PySem.F.type_list_append mt_append (pv 2) (pa_cons (pe_op op_add_str (pe_op op_add_str (pe_op op_add_str (pv 1) pe_str) (pe_ix (r := rIx K) ix_seq (pv 3) pe_int (fun _ _ => rfl))) pe_str) pa_nil)))
              (pss_one (ps_set (i := 2) sc__law_lines.nd rfl (by first | exact Or.inl rfl | exact Or.inr rfl) (pe_op op_cat (pv 2) (pe_call C__law_lines.ok (hr.mono (by omega)) (by rfl) C__law_lines.mg C__law_lines.kp C__law_lines.b .nil pass0 (pa_cons (pe_ix (r := rIx K) ix_seq (pv 3) pe_int (fun _ _ => rfl)) (pa_cons (pe_op op_add_str (pv 1) pe_str) pa_nil))))))) (pss_one (ps_if (pt_cmpR op_eq (pe_ix (r := rIx K) ix_seq (pv 3) pe_int (fun _ _ => rfl)) pe_str (nomark _)) (pss_cons (ps_expr (pe_bm PySem.F.plainAttrs_list PySem.F.slot_list_append PySem.F.type_list_append mt_append (pv 2) (pa_cons (pe_op op_add_str (pe_op op_add_str (pe_op op_add_str (pv 1) pe_str) (pe_call C__law_written_test.ok (hr.mono (by omega)) (by rfl) C__law_written_test.mg C__law_written_test.kp C__law_written_test.b .nil pass0 (pa_cons (pe_ix (r := rIx K) ix_seq (pv 3) pe_int (fun _ _ => rfl)) pa_nil))) pe_str) pa_nil)))
                (pss_cons (ps_set (i := 2) sc__law_lines.nd rfl (by first | exact Or.inl rfl | exact Or.inr rfl) (pe_op op_cat (pv 2) (pe_call C__law_lines.ok (hr.mono (by omega)) (by rfl) C__law_lines.mg C__law_lines.kp C__law_lines.b .nil pass0 (pa_cons (pe_ix (r := rIx K) ix_seq (pv 3) pe_int (fun _ _ => rfl)) (pa_cons (pe_op op_add_str (pv 1) pe_str) pa_nil)))))
                (pss_one (ps_if (pt_cmpR op_gt (pe_callB call_len_seq (by rfl) T.b_len PySem.boot_len (pa_cons (pe_ix (r := rIx K) ix_seq (pv 3) pe_int (fun _ _ => rfl)) pa_nil)) pe_int (nomark _)) (pss_one (ps_set (i := 2) sc__law_lines.nd rfl (by first | exact Or.inl rfl | exact Or.inr rfl) (pe_op op_cat (pe_op op_cat (pv 2) (pe_lst (pa_cons (pe_op op_add_str (pv 1) pe_str) pa_nil))) (pe_call C__law_lines.ok (hr.mono (by omega)) (by rfl) C__law_lines.mg C__law_lines.kp C__law_lines.b .nil pass0 (pa_cons (pe_ix (r := rIx K) ix_seq (pv 3) pe_int (fun _ _ => rfl)) (pa_cons (pe_op op_add_str (pv 1) pe_str) pa_nil)))))) pss_nil)))) (pss_one (ps_expr (pe_bm PySem.F.plainAttrs_list PySem.F.slot_list_append PySem.F.type_list_append mt_append (pv 2) (pa_cons (pe_op op_add_str (pe_op op_add_str (pe_op op_add_str (pv 1) (pe_ix (r := rIx K) ix_seq (pv 3) pe_int (fun _ _ => rfl))) pe_str) (pe_ix (r := rIx K) ix_seq (pv 3) pe_int (fun _ _ => rfl))) pa_nil)))))))))))
        (pss_cons (ps_if (pt_cmpR op_eq (pe_callB call_len_seq (by rfl) T.b_len PySem.boot_len (pa_cons (pv 2) pa_nil)) pe_int (nomark _)) (pss_one (ps_ret (pe_lst (pa_cons (pe_op op_add_str (pv 1) pe_str) pa_nil)))) pss_nil)
        (pss_one (ps_ret (pv 2)))))), ?_⟩
  walk_at "rd"
  refine ⟨by decide, fun p hp => ?_⟩
  have e0 : Ev [] H (upd H p (.lst [])) := (Ev.refl _).over hp
  refine forSeq (a := v) (xs := xs) (fun i σ H' => ∃ (p : Addr) (ys : List Str) (c : Option V), σ = [some (.ref v), some (.str z), some (.ref p), c] ∧ H p = none ∧ H' p = some (.lst (ys.map V.str)) ∧ ys.map tl = lnsL (tl z) (b.take i) ∧ Ev [] H H') (fun R h => ⟨_, rfl, h⟩) (hv.evR hL e0) ?_ ?_ ?_ ?_
  · exact ⟨p, [], none, rfl, hp, upd_same, by unfold List.take lnsL; rfl, e0⟩
  · rintro i σ H' ⟨p', ys, c, rfl, hp', hl, hy, ev⟩
    exact (hv.keep hL ev).trans (hv.keep hL e0).symm
  · rintro i x σ H' hx ⟨p, ys, c, rfl, hp, hl, hy, ev⟩
    obtain ⟨d, hd', hr⟩ := hL.get' hx
    rw [encL_map, List.getElem?_map] at hd'
    obtain ⟨s, hsi, rfl⟩ := Option.map_eq_some_iff.mp hd'
    have hmem := List.mem_of_getElem? hsi
    have hcnt := lns_count (ind := tl z) hsi hs (by rw [← len_tl]; exact hd) hw
    have hysl : ys.length = (lnsL (tl z) (b.take i)).length := by rw [← hy, List.length_map]
    have hsh := shL_mem hs hmem
    have hsd := dep_mem hmem
    have hsw := wt_mem hmem
    have hzl : z.length = (tl z).length := len_tl z
    have htk := take_next hsi
    cases s with
    | loop x w b1 =>
      unfold Stm.enc at hr
      unfold Stm.sh at hsh
      unfold Stm.dep at hsd
      unfold Stm.wt at hsw
      unfold Stm.lns at hcnt
      obtain ⟨q, u1, u2, u3, rfl, hq, hu1, hu2, hu3⟩ := rep4s hr
      cases Rep.strIff.mp hu1
      cases Rep.strIff.mp hu2
      obtain ⟨a3, xs3, rfl, hs3, hL3⟩ := hu3.sq
      have hx20 := hsh.1
      have hw4 := hsh.2.1.len
      walk_at "rd"
      refine ixR 0 rfl (hq.ev ev) rfl (eqT ⟨.inl ⟨_, SqL.of hl⟩, ?_, ixR 1 rfl (hq.ev ev) rfl ⟨x, rfl, ?_, ?_, ixR 2 rfl (hq.ev ev) rfl ⟨w, rfl, ?_, ?_, _, hl, ?_, ixR 3 rfl (hq.ev (ev.over hp)) rfl ⟨?_, a3, xs3, b1, _, rfl, hs3.evR hL3 (ev.over hp), hL3.ev (ev.over hp), hsh.2.2, by omega, ?_, by omega, fun p2 ys2 H2 e2 hp2 hl2 hy2 => ?_⟩⟩⟩⟩)
      · walk_at "len"
      · walk_at "len"
      · walk_at "len"
      · walk_at "len"
      · walk_at "len"
      · walk_at "len"
      · walk_at "len"
      · walk_at "len"
      · rw [tl_append] at hy2
        have hlen2 : ys2.length = (pad (tl z ++ qs "  ") b1 (lnsL (tl z ++ qs "  ") b1)).length := by have := congrArg List.length hy2; rw [List.length_map] at this; exact this
        rw [List.length_cons] at hcnt
        refine ⟨p2, rfl, (ys ++ [z ++ Str.ofString "for " ++ x ++ Str.ofString " " ++ w ++ Str.ofString ":"]).map V.str, ?_, ys2.map V.str, hl2, ?_, fun p3 hp3 => ⟨(((ev.over hp).trans e2).free hp3), ys ++ [z ++ Str.ofString "for " ++ x ++ Str.ofString " " ++ w ++ Str.ofString ":"] ++ ys2, ?_, ?_, ((ev.over hp).trans e2).trans (Ev.new hp3 _)⟩⟩
        · exact Strs.ev (by rw [upd_same, snoc_map]) e2
        · rw [List.length_map, List.length_map, List.length_append, hlen2, hysl]
          rw [szl]
          simp only [List.length_cons, List.length_nil]
          omega
        · rw [upd_same, cat_map]
        · rw [htk, lnsL_append, lnsL_one, List.map_append, List.map_append, hy, hy2]
          unfold Stm.lns Stm.hd blk
          simp only [List.map_cons, List.map_nil, tl_append, List.append_assoc, List.cons_append, List.nil_append]
    | mark x b1 =>
      unfold Stm.enc at hr
      unfold Stm.sh at hsh
      unfold Stm.dep at hsd
      unfold Stm.wt at hsw
      unfold Stm.lns at hcnt
      obtain ⟨q, u1, u2, rfl, hq, hu1, hu2⟩ := rep3s hr
      cases Rep.strIff.mp hu1
      obtain ⟨a3, xs3, rfl, hs3, hL3⟩ := hu2.sq
      have hx20 := hsh.1
      walk_at "rd"
      refine ixR 0 rfl (hq.ev ev) rfl (neT (by decide +kernel) (ixR 0 rfl (hq.ev ev) rfl (eqT ⟨.inl ⟨_, SqL.of hl⟩, ?_, ixR 1 rfl (hq.ev ev) rfl ⟨x, rfl, ?_, ?_, _, hl, ?_, ixR 2 rfl (hq.ev (ev.over hp)) rfl ⟨?_, a3, xs3, b1, _, rfl, hs3.evR hL3 (ev.over hp), hL3.ev (ev.over hp), hsh.2, by omega, ?_, by omega, fun p2 ys2 H2 e2 hp2 hl2 hy2 => ?_⟩⟩⟩)))
      · walk_at "len"
      · walk_at "len"
      · walk_at "len"
      · walk_at "len"
      · walk_at "len"
      · walk_at "len"
      · rw [tl_append] at hy2
        have hlen2 : ys2.length = (pad (tl z ++ qs "  ") b1 (lnsL (tl z ++ qs "  ") b1)).length := by have := congrArg List.length hy2; rw [List.length_map] at this; exact this
        rw [List.length_cons] at hcnt
        refine ⟨p2, rfl, (ys ++ [z ++ Str.ofString "mark " ++ x ++ Str.ofString ":"]).map V.str, ?_, ys2.map V.str, hl2, ?_, fun p3 hp3 => ⟨(((ev.over hp).trans e2).free hp3), ys ++ [z ++ Str.ofString "mark " ++ x ++ Str.ofString ":"] ++ ys2, ?_, ?_, ((ev.over hp).trans e2).trans (Ev.new hp3 _)⟩⟩
        · exact Strs.ev (by rw [upd_same, snoc_map]) e2
        · rw [List.length_map, List.length_map, List.length_append, hlen2, hysl]
          rw [szl]
          simp only [List.length_cons, List.length_nil]
          omega
        · rw [upd_same, cat_map]
        · rw [htk, lnsL_append, lnsL_one, List.map_append, List.map_append, hy, hy2]
          unfold Stm.lns Stm.hd blk
          simp only [List.map_cons, List.map_nil, tl_append, List.append_assoc, List.cons_append, List.nil_append]
    | cond t b1 b2 =>
      unfold Stm.enc at hr
      unfold Stm.sh at hsh
      unfold Stm.dep at hsd
      unfold Stm.wt at hsw
      unfold Stm.lns at hcnt
      obtain ⟨q, u1, u2, u3, rfl, hq, hu1, hu2, hu3⟩ := rep4s hr
      obtain ⟨a2, xs2, rfl, hs2, hL2⟩ := hu2.sq
      obtain ⟨a3, xs3, rfl, hs3, hL3⟩ := hu3.sq
      have ht := tx_short hsh.1 hsh.2.1
      walk_at "rd"
      refine ixR 0 rfl (hq.ev ev) rfl (neT (by decide +kernel) (ixR 0 rfl (hq.ev ev) rfl (neT (by decide +kernel) (ixR 0 rfl (hq.ev ev) rfl (eqT ⟨.inl ⟨_, SqL.of hl⟩, ?_, ixR 1 rfl (hq.ev ev) rfl ⟨u1, t, rfl, hu1.ev ev, hsh.1, by omega, by omega, fun zt H1 e1 hzt => ⟨zt, rfl, ?_, ?_, _, Strs.ev hl e1, ?_, ?_⟩⟩⟩)))))
      · walk_at "len"
      · rw [← hzt, ← len_tl] at ht
        walk_at "len"
      · rw [← hzt, ← len_tl] at ht
        walk_at "len"
      · walk_at "len"
      have ev1 := ev.trans e1
      refine ixR 2 rfl (hq.ev (ev1.over hp)) rfl ⟨?_, a2, xs2, b1, _, rfl, hs2.evR hL2 (ev1.over hp), hL2.ev (ev1.over hp), hsh.2.2.1, by omega, ?_, by omega, fun p2 ys2 H2 e2 hp2 hl2 hy2 => ?_⟩
      · walk_at "len"
      · walk_at "len"
      rw [tl_append] at hy2
      have hlen2 : ys2.length = (pad (tl z ++ qs "  ") b1 (lnsL (tl z ++ qs "  ") b1)).length := by have := congrArg List.length hy2; rw [List.length_map] at this; exact this
      rw [List.length_cons, List.length_append] at hcnt
      have ev2 : Ev [] H H2 := (ev1.over hp).trans e2
      refine ⟨p2, rfl, _, Strs.ev (by rw [upd_same, snoc_map]) e2, _, hl2, ?_, fun p3 hp3 => ?_⟩
      · rw [List.length_map, List.length_map, List.length_append, hlen2, hysl]
        rw [szl]
        simp only [List.length_cons, List.length_nil]
        omega
      have ev3 : Ev [] H (upd H2 p3 (.lst (List.map V.str (ys ++ [z ++ Str.ofString "if " ++ zt ++ Str.ofString ":"]) ++ List.map V.str ys2))) := ev2.trans (Ev.new hp3 _)
      have hf3 := ev2.free hp3
      have hy3 : List.map tl (ys ++ [z ++ Str.ofString "if " ++ zt ++ Str.ofString ":"] ++ ys2) = lnsL (tl z) (List.take i b) ++ ((tl z ++ Stm.hd (.cond t b1 b2)) :: pad (tl z ++ qs "  ") b1 (lnsL (tl z ++ qs "  ") b1)) := by
        rw [List.map_append, List.map_append, hy, hy2]
        unfold Stm.hd blk
        simp only [List.map_cons, List.map_nil, tl_append, List.append_assoc, List.cons_append, List.nil_append, hzt]
      refine ixR 3 rfl (hq.ev ev3) rfl ⟨a3, rfl, xs3, (hs3.evR hL3 ev3).len, ?_⟩
      have hx3 : xs3.length = b2.length := by rw [hL3.len, encL_len]
      cases b2 with
      | nil =>
        rw [if_neg (by rw [hx3]; simp)]
        refine ⟨hf3, ys ++ [_] ++ ys2, by rw [upd_same, cat_map], ?_, ev3⟩
        rw [hy3, htk, lnsL_append, lnsL_one]
        unfold Stm.lns els
        rw [List.append_nil]
      | cons s2 r2 =>
        rw [if_pos (by rw [hx3]; simp)]
        refine ⟨?_, by decide, fun p4 hp4 => ⟨_, (upd_ne (ne_of_none upd_same hp4)).trans upd_same, _, upd_same, ?_, fun p5 hp5 => ?_⟩⟩
        · walk_at "len"
        · unfold els at hcnt
          rw [List.length_append, List.length_map, List.length_map, List.length_append, hlen2, hysl]
          rw [szl]
          simp only [List.length_cons, List.length_nil] at hcnt ⊢
          omega
        have ev5 := (ev3.trans (Ev.new hp4 (.lst [.str (z ++ Str.ofString "else:")]))).trans (Ev.new hp5 (.lst (List.map V.str (ys ++ [z ++ Str.ofString "if " ++ zt ++ Str.ofString ":"]) ++ List.map V.str ys2 ++ [.str (z ++ Str.ofString "else:")])))
        refine ixR 3 rfl (hq.ev ev5) rfl ⟨?_, a3, xs3, s2 :: r2, _, rfl, hs3.evR hL3 ev5, hL3.ev ev5, hsh.2.2.2, by omega, ?_, by omega, fun p6 ys6 H6 e6 hp6 hl6 hy6 => ?_⟩
        · walk_at "len"
        · walk_at "len"
        rw [tl_append] at hy6
        have hlen6 : ys6.length = (lnsL (tl z ++ qs "  ") (s2 :: r2)).length := by have := congrArg List.length hy6; rw [List.length_map] at this; exact this
        have hl5 : H6 p5 = some (.lst ((ys ++ [z ++ Str.ofString "if " ++ zt ++ Str.ofString ":"] ++ ys2 ++ [z ++ Str.ofString "else:"]).map V.str)) := Strs.ev (by rw [upd_same, cat_map, snoc_map]) e6
        refine ⟨p6, rfl, _, hl5, _, hl6, ?_, fun p7 hp7 => ⟨(ev5.trans e6).free hp7, ys ++ [_] ++ ys2 ++ [_] ++ ys6, by rw [upd_same, cat_map], ?_, (ev5.trans e6).trans (Ev.new hp7 _)⟩⟩
        · unfold els at hcnt
          rw [List.length_map, List.length_map, List.length_append, List.length_append, List.length_append, hlen2, hlen6, hysl]
          rw [szl]
          simp only [List.length_cons, List.length_nil] at hcnt ⊢
          omega
        · rw [List.map_append, List.map_append, hy3, htk, lnsL_append, lnsL_one, hy6]
          unfold Stm.lns els blk pad
          simp only [List.map_cons, List.map_nil, tl_append, List.append_assoc, List.cons_append, List.nil_append]
    | leaf w x =>
      unfold Stm.enc at hr
      unfold Stm.sh at hsh
      unfold Stm.lns at hcnt
      obtain ⟨q, u1, rfl, hq, hu1⟩ := rep2s hr
      cases Rep.strIff.mp hu1
      have n1 : w ≠ Str.ofString "for" := by rcases hsh.1 with rfl | rfl | rfl | rfl <;> decide +kernel
      have n2 : w ≠ Str.ofString "mark" := by rcases hsh.1 with rfl | rfl | rfl | rfl <;> decide +kernel
      have n3 : w ≠ Str.ofString "if" := by rcases hsh.1 with rfl | rfl | rfl | rfl <;> decide +kernel
      have hw5 := hsh.1.len
      have hx40 := hsh.2
      walk_at "rd"
      refine ixR 0 rfl (hq.ev ev) rfl (neT n1 (ixR 0 rfl (hq.ev ev) rfl (neT n2 (ixR 0 rfl (hq.ev ev) rfl (neT n3 ⟨.inl ⟨_, SqL.of hl⟩, ixR 0 rfl (hq.ev ev) rfl ⟨w, rfl, ?_, ?_, ixR 1 rfl (hq.ev ev) rfl ⟨x, rfl, ?_, _, hl, ?_, hp, ys ++ [z ++ w ++ Str.ofString " " ++ x], ?_, ?_, ev.over hp⟩⟩⟩)))))
      · walk_at "len"
      · walk_at "len"
      · walk_at "len"
      · walk_at "len"
      · rw [upd_same, snoc_map]
      · rw [htk, lnsL_append, lnsL_one, List.map_append, hy]
        unfold Stm.lns Stm.hd
        simp only [List.map_cons, List.map_nil, tl_append, List.append_assoc]
  · rintro σ H' ⟨p, ys, c, rfl, hp, hl, hy, ev⟩
    rw [hL.len, encL_len, List.take_length] at hy
    walk_at "rd"
    refine ⟨_, .inl (SqL.of hl), rfl, ?_⟩
    have hll : (ys.map V.str).length = (lnsL (tl z) b).length := by rw [← hy, List.length_map, List.length_map]
    cases b with
    | nil =>
      rw [if_pos (by rw [hll]; unfold lnsL; simp)]
      refine ⟨?_, by decide, fun p2 hp2 => q p2 [_] _ (ev.trans (Ev.new hp2 _)) (ev.free hp2) upd_same ?_⟩
      · walk_at "len"
      · unfold blk pad
        simp only [List.map_cons, List.map_nil, tl_append]
    | cons s r =>
      rw [if_neg (by
        rw [hll]
        unfold lnsL
        rw [List.length_append]
        have : 1 ≤ (s.lns (tl z)).length := by cases s <;> unfold Stm.lns <;> simp
        simp
        omega)]
      exact q p ys H' ev hp hl hy
theorem all_wtest (F : Fun K "_law_written_test" "_law_written_test" s__law_written_test f fd) (T : Bt mg) (b : Binds K fd ["test"] []) (mF : mg "_law_written_test" = some (.ref f)) : ∀ m : Nat, FnOk P w K mg base CX0 (m + 1) f fd ["test"] (spWtest m)
  | 0 => FnOk.none fun vs H Q E h => by
    obtain ⟨v, t, rfl, _, _, hm, _⟩ := h
    omega
  | m + 1 => ok_wtest F T ⟨f, fd, all_wtest F T b mF m, b, F.kp, mF⟩
theorem all_lines (F : Fun K "_law_lines" "_law_lines" s__law_lines f fd) (T : Bt mg) (C__law_written_test : Cl P w K mg base "_law_written_test" 6 ["test"] (spWtest 5)) (b : Binds K fd ["body", "indent"] []) (mF : mg "_law_lines" = some (.ref f)) : ∀ m : Nat, FnOk P w K mg base CX0 (m + 7) f fd ["body", "indent"] (spLines m)
  | 0 => FnOk.none fun vs H Q E h => by
    obtain ⟨v, xs, b, z, rfl, hv, hL, hs, hm, _⟩ := h
    omega
  | m + 1 => ok_lines F T C__law_written_test ⟨f, fd, all_lines F T C__law_written_test b mF m, b, F.kp, mF⟩
end
end TW
/-! C1 -/
set_option Elab.async false
set_option linter.all false
set_option maxRecDepth 100000
set_option maxHeartbeats 4000000
namespace TW
open PySem L2 TL
local macro_rules | `(tactic| walk_at "rd") => `(tactic| simp only [tSeq, tAsg, tOp, tUn, tVar, tCB, tCons, tNil, tRet, tDrop, gName, gSub, gTup, gCons, gNil, rI, rI0, rU, rIxL, rIxT, rIxS, rSetL, tC, L2.start, cxOf, tIfS, tIf, tTest, tB, tAnd, tOr, tNot, tAndV, tOrV, tNotV, tChain, tTup, tLst, tCall, tNext, tNever,
  rEq, rNe, tBM, tBM0, rCat, rRep, rIn, tSl, rSlL, rSlT, rSlS, rAll, rAny, rSortedS, rAppend, rPop, rExtend, tyV, tFld, tM1, tJs, tRev, tKGet, rRvL, rRvT, rRvS, rExtendT, rLstS, rRepS, tNoPart, tPart, tYes, StX.tStar, wipe, tFmtS, rIxD, tOrT, tMake, tMakeK, tCallN,
  List.map, List.length, List.replicate, List.append, List.nil_append, List.cons_append, List.append_nil, List.set, Nat.zero_add, Nat.add_zero, Nat.reduceAdd, Nat.reduceSub, List.getElem?_cons_zero, List.getElem?_cons_succ, List.length_cons, List.length_nil, List.set_cons_zero, List.set_cons_succ, List.getElem?_nil, Option.some.injEq, V.ref.injEq, V.int.injEq, V.str.injEq, V.bl.injEq, List.cons.injEq, and_true, true_and, exists_eq_left, exists_eq_left', exists_eq', exists_eq, exists_and_left, exists_const, reduceCtorEq, false_or, or_false, true_or, or_true, false_and, and_false, and_assoc, if_true, if_false, Bool.false_eq_true, Bool.true_eq_false])
local macro_rules | `(tactic| walk_at "rdd") => `(tactic| simp only [tSeq, tAsg, tOp, tUn, tVar, tCB, tCons, tNil, tRet, tDrop, gName, gSub, gTup, gCons, gNil, rI, rI0, rU, rIxL, rIxT, rIxS, rSetL, tC, L2.start, cxOf, tIfS, tIf, tTest, tB, tAnd, tOr, tNot, tAndV, tOrV, tNotV, tChain, tTup, tLst, tCall, tNext, tNever,
  rEq, rNe, tBM, tBM0, rCat, rRep, rIn, tSl, rSlL, rSlT, rSlS, rAll, rAny, rSortedS, rAppend, rPop, rExtend, tyV, tFld, tM1, tJs, tRev, tKGet, rRvL, rRvT, rRvS, rExtendT, rLstS, rRepS, tNoPart, tPart, tYes, StX.tStar, wipe, tFmtS, rIxD, tOrT, tMake, tMakeK, tCallN, tFor, tWhile, tLc, iList, iTup, iSeq, iStr, iRng1, iRng2, iEnumS, iZipS,
  List.map, List.length, List.replicate, List.append, List.nil_append, List.cons_append, List.append_nil, List.set, Nat.zero_add, Nat.add_zero, Nat.reduceAdd, Nat.reduceSub, List.getElem?_cons_zero, List.getElem?_cons_succ, List.length_cons, List.length_nil, List.set_cons_zero, List.set_cons_succ, List.getElem?_nil, Option.some.injEq, V.ref.injEq, V.int.injEq, V.str.injEq, V.bl.injEq, List.cons.injEq, and_true, true_and, exists_eq_left, exists_eq_left', exists_eq', exists_eq, exists_and_left, exists_const, reduceCtorEq, false_or, or_false, true_or, or_true, false_and, and_false, and_assoc, if_true, if_false, Bool.false_eq_true, Bool.true_eq_false])
structure Gw (mg : Str → Option Value) (R A B C : Addr) : Prop extends Bt mg where
  g_RESERVED : mg "RESERVED" = some (.ref R)
  g_TEST_SIZES : mg "TEST_SIZES" = some (.ref A)
  g_STATEMENT_SIZES : mg "STATEMENT_SIZES" = some (.ref B)
  g_PLACE_WORDS : mg "PLACE_WORDS" = some (.ref C)
section
variable {P : Program} {w : World} {K : PySem.W.Frag} {mg : Str → Option Value} {base : Heap} {f g : Addr} {fd gd : FuncData} {Ra Aa Ba Ca : Addr}
/-- all([.. for sign in text]) where every turn answers True -/
theorem allStr {tl : TE} {g : TG} {te : TE} {ws : List Nat} {σ : St} {H : Hp} {Q : VK} {x : Str} (ht : ∀ R : VK, R (.str x) H → tl σ H R) (hsz : x.length ≤ 1000)
    (hs : ∀ (i c : Nat) (H' : Hp) (R : VK), x.cps[i]? = some c → Ev [] H H' → (∀ H4, Ev [] H' H4 → Same H' H4 → R (.bl true) H4) → g (.str ⟨#[c]⟩) (wipe σ ws) H' fun σ2 H2 => wipe σ2 ws = wipe σ ws ∧ te σ2 H2 R)
    (hd : ∀ (D : Addr) (bs : List Bool) (H' : Hp), Ev [] H H' → H' D = some (.lst (bs.map V.bl)) → bs.all id = true → Q (.ref D) H') : tLc (iStr tl) g tYes te ws σ H Q := by
  unfold tLc iStr
  refine ht _ ⟨x, rfl, fun D hD => lc_it walk_str (fun i H' => ∃ bs : List Bool, H' D = some (.lst (bs.map V.bl)) ∧ bs.all id = true ∧ bs.length = i ∧ Ev [] H H') ⟨[], upd_same, rfl, rfl, (Ev.refl _).over hD⟩ (fun _ _ _ _ => trivial) ?_ ?_⟩
  · rintro i v H1 H' hi ⟨bs, hl, hb, hn, ev⟩ ⟨rfl, c, hc, rfl⟩
    have := hs i c H' (fun y H4 => ∃ acc, H4 D = some (.lst acc) ∧ acc.length < sizeLine ∧ ∃ bs : List Bool, (upd H4 D (.lst (acc ++ [y]))) D = some (.lst (bs.map V.bl)) ∧ bs.all id = true ∧ bs.length = i + 1 ∧ Ev [] H (upd H4 D (.lst (acc ++ [y])))) hc ev (fun H4 e4 s4 => ⟨_, s4 _ _ hl, by
      rw [List.length_map, hn, szl]
      have : x.cps.size ≤ 1000 := hsz
      omega, bs ++ [true], by rw [upd_same, List.map_append]; rfl, by simp [hb], by simp [hn], (ev.trans e4).over hD⟩)
    simpa only [tYes, if_true] using this
  · rintro H' ⟨bs, hl, hb, hn, ev⟩
    exact hd D bs H' ev hl hb
theorem cp_mem {x : Str} {i c : Nat} (h : x.cps[i]? = some c) : c ∈ tl x := by
  have : (tl x)[i]? = some c := by
    show x.cps.toList[i]? = some c
    rw [Array.getElem?_toList]
    exact h
  exact List.mem_of_getElem? this
theorem lt1 (c d : Nat) : decide ([c] < [d]) = decide (c < d) := by
  rw [decide_eq_decide]
  constructor
  · intro h
    rcases List.cons_lt_cons_iff.mp h with h | ⟨_, h⟩
    · exact h
    · exact absurd h (List.lt_irrefl _)
  · intro h
    exact List.cons_lt_cons_iff.mpr (.inl h)
theorem c_a : (Str.ofString "a").cps.toList = [97] := by decide +kernel
theorem c_z : (Str.ofString "z").cps.toList = [122] := by decide +kernel
theorem c_0 : (Str.ofString "0").cps.toList = [48] := by decide +kernel
theorem c_9 : (Str.ofString "9").cps.toList = [57] := by decide +kernel
theorem num_if {p : Prop} [Decidable p] {A B : Prop} (h : p) (q : A) : (if decide p = true then A else B) := by rw [if_pos (by simpa using h)]; exact q
def spSmall : Sp := fun vs H Q _ => ∃ c : Nat, vs = [.str ⟨#[c]⟩] ∧ Q (.bl (decide (97 ≤ c ∧ c ≤ 122))) H
theorem ok_small (F : Fun K "is_small_letter" "is_small_letter" s_is_small_letter f fd) (T : Gw mg Ra Aa Ba Ca) : FnOk P w K mg base CX0 1 f fd ["sign"] spSmall := by
  refine F.ok sc_is_small_letter (fun vs H Q E h => ?_) (fun cdv A outer s H vs Q E hr h => ?_)
  · obtain ⟨c, rfl, _⟩ := h
    rfl
  obtain ⟨c, rfl, q⟩ := h
  refine ⟨_, (pss_one (ps_ret (pe_chain op_le_str op_le_str pe_str (pv 0) pe_str))), ?_⟩
  walk_at "rd"
  rw [c_a, c_z, lt1, lt1]
  by_cases h : c < 97
  · rw [if_neg (by simp [h])]
    have : decide (97 ≤ c ∧ c ≤ 122) = false := by simp; omega
    rw [this] at q
    exact q
  · rw [if_pos (by simp [h])]
    have : decide (97 ≤ c ∧ c ≤ 122) = !decide (122 < c) := by
      rw [← decide_not, decide_eq_decide]
      omega
    rw [this] at q
    exact q
def spWord : Sp := fun vs H Q _ => ∃ z : Str, vs = [.str z] ∧ NameOk z ∧ ∀ H', Ev [] H H' → Q (.bl true) H'
theorem ok_word (F : Fun K "is_word" "is_word" s_is_word f fd) (T : Gw mg Ra Aa Ba Ca) (C_is_small_letter : Cl P w K mg base "is_small_letter" 1 ["sign"] spSmall) : FnOk P w K mg base CX0 2 f fd ["text"] spWord := by
  refine F.ok sc_is_word (fun vs H Q E h => ?_) (fun cdv A outer s H vs Q E hr h => ?_)
  · obtain ⟨z, rfl, _⟩ := h
    rfl
  obtain ⟨z, rfl, hz, q⟩ := h
  refine ⟨_, (pss_one (ps_ret (pe_and (pe_cmpR op_gt (pe_callB call_len_str (by rfl) T.b_len PySem.boot_len (pa_cons (pv 0) pa_nil)) pe_int (nomark _)) (pe_one (pe_callB (cr_all rfl) (by rfl) T.b_all (by decide +kernel) (pa_cons (pe_lc (own := [("sign", 1)]) (g := gName 1) (by rfl) sc_is_word.nd (pi_str (pv 0)) (blkOk_by (N := ["text", "sign"]) (sc := defScope s_is_word) (by decide +kernel)) (fun _ _ _ _ _ => pg_name (i := 1) sc_is_word.nd rfl (by first | exact Or.inl rfl | exact Or.inr rfl)) (fun _ _ _ _ _ => pts_nil) (fun _ _ _ _ _ => (pe_or (pe_call C_is_small_letter.ok (hr.mono (by omega)) (by rfl) C_is_small_letter.mg C_is_small_letter.kp C_is_small_letter.b .nil pass0 (pa_cons (pv 1) pa_nil)) (pe_one (pe_chain op_le_str op_le_str pe_str (pv 1) pe_str))))) pa_nil)))))), ?_⟩
  walk_at "rd"
  have h1 := hz.lo
  have h2 := hz.hi
  refine ⟨by rw [szl]; omega, num_if (by omega) (allStr (fun R h => ⟨_, rfl, h⟩) (by omega) (fun i c H' R hc ev k => ?_) (fun D bs H' ev hl hb => ⟨D, rfl, bs, SqL.of hl, by rw [hb]; exact q H' ev⟩))⟩
  have hok := hz.all c (cp_mem hc)
  walk_at "rd"
  refine ⟨c, rfl, ?_⟩
  rw [c_0, c_9]
  by_cases h : 97 ≤ c ∧ c ≤ 122
  · refine ⟨true, by rw [decide_eq_true h], ?_⟩
    rw [if_pos rfl]
    exact k H' (Ev.refl _) fun _ _ e => e
  · refine ⟨false, by rw [decide_eq_false h], ?_⟩
    rw [if_neg (by decide), lt1, lt1]
    have hd : 48 ≤ c ∧ c ≤ 57 := by
      unfold okc at hok
      omega
    rw [if_pos (by simp; omega)]
    have : (!decide (57 < c)) = true := by simp; omega
    rw [this]
    exact k H' (Ev.refl _) fun _ _ e => e
def spAsc : Sp := fun vs H Q _ => ∃ z : Str, vs = [.str z] ∧ (tl z).Pairwise (· < ·) ∧ z.length ≤ 6 ∧ ∀ H', Ev [] H H' → Q (.bl true) H'
theorem ok_asc (F : Fun K "is_ascending" "is_ascending" s_is_ascending f fd) (T : Gw mg Ra Aa Ba Ca) : FnOk P w K mg base CX0 1 f fd ["text"] spAsc := by
  refine F.ok sc_is_ascending (fun vs H Q E h => ?_) (fun cdv A outer s H vs Q E hr h => ?_)
  · obtain ⟨z, rfl, _⟩ := h
    rfl
  obtain ⟨z, rfl, hz, hl, q⟩ := h
  refine ⟨_, (pss_one (ps_ret (pe_callB (cr_all rfl) (by rfl) T.b_all (by decide +kernel) (pa_cons (pe_lc (own := [("sign", 1), ("later", 2)]) (g := gTup K 2 (gCons (gName 1) (gCons (gName 2) gNil))) (by rfl) sc_is_ascending.nd (pi_zipS (by rfl) T.b_zip (pa_cons (pv 0) (pa_cons (pe_slice sl_str (pv 0) (po_some pe_int) po_none) pa_nil))) (blkOk_by (N := ["text", "sign", "later"]) (sc := defScope s_is_ascending) (by decide +kernel)) (fun _ _ _ _ _ => pg_tup (n := 2) (by rfl) (pgs_cons (pg_name (i := 1) sc_is_ascending.nd rfl (by first | exact Or.inl rfl | exact Or.inr rfl)) (pgs_cons (pg_name (i := 2) sc_is_ascending.nd rfl (by first | exact Or.inl rfl | exact Or.inr rfl)) pgs_nil))) (fun _ _ _ _ _ => pts_nil) (fun _ _ _ _ _ => (pe_cmpR op_lt_str (pv 1) (pv 2) (nomark _)))) pa_nil)))), ?_⟩
  walk_at "rd"
  refine ⟨_, rfl, _, rfl, 1, rfl, z, rfl, by rw [szl]; omega, ⟨z, _, rfl, fun D hD => lc_it walk_new (fun i H' => ∃ bs : List Bool, H' D = some (.lst (bs.map V.bl)) ∧ bs.all id = true ∧ bs.length = i ∧ Ev [] H H') ⟨[], upd_same, rfl, rfl, (Ev.refl _).over hD⟩ (fun _ _ _ _ => trivial) ?_ ?_⟩⟩
  · rintro i v H1 H' hi ⟨bs, hb, ha, hn, ev⟩ ⟨p, rfl, hp, rfl⟩
    rw [cut_lo z (by omega)] at hi ⊢
    have hi2 : i < min z.cps.size ((tl z).drop 1).length := hi
    have hl2 : (tl z).length = z.cps.size := Array.length_toList
    rw [List.length_drop] at hi2
    have g1 : z.cps.getD i 0 = (tl z)[i]'(by omega) := by
      rw [Array.getD_eq_getD_getElem?]
      show (z.cps[i]?).getD 0 = z.cps.toList[i]'_
      rw [Array.getElem_toList, Array.getElem?_eq_getElem (by omega)]
      rfl
    have g2 : (⟨((tl z).drop (1 : Int).toNat).toArray⟩ : Str).cps.getD i 0 = (tl z)[i + 1]'(by omega) := by
      show (((tl z).drop 1).toArray).getD i 0 = _
      rw [Array.getD_eq_getD_getElem?, List.getElem?_toArray, List.getElem?_drop, Nat.add_comm, List.getElem?_eq_getElem (by omega)]
      rfl
    have hlt := List.pairwise_iff_getElem.mp hz i (i + 1) (by omega) (by omega) (by omega)
    walk_at "rd"
    refine ⟨_, SqT.of upd_same, rfl, _, _, rfl, _, _, rfl, rfl, _, rfl, _, rfl, _, (upd_ne (ne_of_none hb hp)).trans hb, ?_, bs ++ [true], ?_, by simp [ha], by simp [hn], (ev.trans (Ev.new hp _)).over hD⟩
    · rw [List.length_map, hn, szl]
      have hl' : z.cps.size ≤ 6 := hl
      omega
    · rw [upd_same]
      have e1 : decide ((⟨#[z.cps.getD i 0]⟩ : Str).cps.toList < (⟨#[(⟨((tl z).drop (1 : Int).toNat).toArray⟩ : Str).cps.getD i 0]⟩ : Str).cps.toList) = true := by
        rw [g1, g2]
        show decide ([_] < [_]) = true
        rw [lt1]
        exact decide_eq_true hlt
      rw [e1, List.map_append]
      rfl
  · rintro H' ⟨bs, hb, ha, hn, ev⟩
    refine ⟨D, rfl, bs, SqL.of hb, ?_⟩
    rw [ha]
    exact q H' ev
def spAlph : Sp := fun vs H Q _ => ∃ z : Str, vs = [.str z] ∧ Alph z ∧ ∀ H', Ev [] H H' → Q (.bl true) H'
theorem ok_alph (F : Fun K "is_alphabet" "is_alphabet" s_is_alphabet f fd) (T : Gw mg Ra Aa Ba Ca) (C_is_small_letter : Cl P w K mg base "is_small_letter" 1 ["sign"] spSmall) (C_is_ascending : Cl P w K mg base "is_ascending" 1 ["text"] spAsc) : FnOk P w K mg base CX0 2 f fd ["text"] spAlph := by
  refine F.ok sc_is_alphabet (fun vs H Q E h => ?_) (fun cdv A outer s H vs Q E hr h => ?_)
  · obtain ⟨z, rfl, _⟩ := h
    rfl
  obtain ⟨z, rfl, hz, q⟩ := h
  refine ⟨_, (pss_one (ps_ret (pe_and (pe_chain op_le op_le pe_int (pe_callB call_len_str (by rfl) T.b_len PySem.boot_len (pa_cons (pv 0) pa_nil)) pe_int) (pe_and (pe_call C_is_ascending.ok (hr.mono (by omega)) (by rfl) C_is_ascending.mg C_is_ascending.kp C_is_ascending.b .nil pass0 (pa_cons (pv 0) pa_nil)) (pe_one (pe_callB (cr_all rfl) (by rfl) T.b_all (by decide +kernel) (pa_cons (pe_lc (own := [("sign", 1)]) (g := gName 1) (by rfl) sc_is_alphabet.nd (pi_str (pv 0)) (blkOk_by (N := ["text", "sign"]) (sc := defScope s_is_alphabet) (by decide +kernel)) (fun _ _ _ _ _ => pg_name (i := 1) sc_is_alphabet.nd rfl (by first | exact Or.inl rfl | exact Or.inr rfl)) (fun _ _ _ _ _ => pts_nil) (fun _ _ _ _ _ => (pe_call C_is_small_letter.ok (hr.mono (by omega)) (by rfl) C_is_small_letter.mg C_is_small_letter.kp C_is_small_letter.b .nil pass0 (pa_cons (pv 1) pa_nil)))) pa_nil))))))), ?_⟩
  walk_at "rd"
  have h1 := hz.lo
  have h2 := hz.hi
  refine ⟨by rw [szl]; omega, num_if (by omega) (num_if (by omega) ⟨z, rfl, hz.asc, hz.hi, fun H1 e1 => ⟨true, rfl, ?_⟩⟩)⟩
  rw [if_pos rfl]
  refine allStr (fun R h => ⟨_, rfl, h⟩) (by omega) (fun i c H' R hc ev k => ?_) (fun D bs H' ev hl hb => ⟨D, rfl, bs, SqL.of hl, by rw [hb]; exact q H' (e1.trans ev)⟩)
  walk_at "rd"
  refine ⟨c, rfl, ?_⟩
  rw [decide_eq_true (hz.low c (cp_mem hc))]
  exact k H' (Ev.refl _) fun _ _ e => e
def spName : Sp := fun vs H Q _ => ∃ z : Str, vs = [.str z] ∧ NameOk z ∧ ∀ H', Ev [] H H' → Q (.bl true) H'
theorem ok_name (F : Fun K "is_name" "is_name" s_is_name f fd) (T : Gw mg Ra Aa Ba Ca) (hR : ∀ H, SqT K H Ra (resv.map V.str)) (C_is_small_letter : Cl P w K mg base "is_small_letter" 1 ["sign"] spSmall) (C_is_word : Cl P w K mg base "is_word" 2 ["text"] spWord) : FnOk P w K mg base CX0 3 f fd ["text"] spName := by
  refine F.ok sc_is_name (fun vs H Q E h => ?_) (fun cdv A outer s H vs Q E hr h => ?_)
  · obtain ⟨z, rfl, _⟩ := h
    rfl
  obtain ⟨z, rfl, hz, q⟩ := h
  refine ⟨_, (pss_one (ps_ret (pe_and (pe_chain op_le op_le pe_int (pe_callB call_len_str (by rfl) T.b_len PySem.boot_len (pa_cons (pv 0) pa_nil)) pe_int) (pe_and (pe_call C_is_small_letter.ok (hr.mono (by omega)) (by rfl) C_is_small_letter.mg C_is_small_letter.kp C_is_small_letter.b .nil pass0 (pa_cons (pe_ix ix_str (pv 0) pe_int (fun _ _ => rfl)) pa_nil)) (pe_and (pe_call C_is_word.ok (hr.mono (by omega)) (by rfl) C_is_word.mg C_is_word.kp C_is_word.b .nil pass0 (pa_cons (pv 0) pa_nil)) (pe_one (pe_cmpR op_notIn_seq (pv 0) (pe_glob (v := V.ref _) (by rfl) T.g_RESERVED rfl) (by rfl)))))))), ?_⟩
  walk_at "rd"
  have h1 := hz.lo
  have h2 := hz.hi
  have h0 : 0 < (tl z).length := by rw [← len_tl]; omega
  have hc : atI z.cps.toList 0 = some ((tl z)[0]) := at_ofN (j := 0) (List.getElem?_eq_getElem h0)
  have hf := hz.fst
  rw [List.getD_eq_getElem?_getD, List.getElem?_eq_getElem h0, Option.getD_some] at hf
  refine ⟨by rw [szl]; omega, num_if (by omega) (num_if (by omega) ⟨by rw [szl]; omega, _, hc, _, rfl, true, by rw [decide_eq_true hf], ?_⟩)⟩
  rw [if_pos rfl]
  refine ⟨z, rfl, hz, fun H1 e1 => ⟨true, rfl, ?_⟩⟩
  rw [if_pos rfl]
  refine ⟨_, .inr (hR H1), rfl, flat_strs _, ?_⟩
  rw [inV_strs, decide_eq_false hz.free]
  exact q H1 e1
def spAre : Sp := fun vs H Q _ => ∃ z al : Str, vs = [.str z, .str al] ∧ LetOk al z ∧ Alph al ∧ ∀ H', Ev [] H H' → Q (.bl true) H'
theorem ok_are (F : Fun K "are_letters" "are_letters" s_are_letters f fd) (T : Gw mg Ra Aa Ba Ca) (C_is_ascending : Cl P w K mg base "is_ascending" 1 ["text"] spAsc) : FnOk P w K mg base CX0 2 f fd ["letters", "alphabet"] spAre := by
  refine F.ok sc_are_letters (fun vs H Q E h => ?_) (fun cdv A outer s H vs Q E hr h => ?_)
  · obtain ⟨z, al, rfl, _⟩ := h
    rfl
  obtain ⟨z, al, rfl, hz, hA, q⟩ := h
  refine ⟨_, (pss_one (ps_ret (pe_and (pe_cmpR op_gt (pe_callB call_len_str (by rfl) T.b_len PySem.boot_len (pa_cons (pv 0) pa_nil)) pe_int (nomark _)) (pe_and (pe_call C_is_ascending.ok (hr.mono (by omega)) (by rfl) C_is_ascending.mg C_is_ascending.kp C_is_ascending.b .nil pass0 (pa_cons (pv 0) pa_nil)) (pe_one (pe_callB (cr_all rfl) (by rfl) T.b_all (by decide +kernel) (pa_cons (pe_lc (own := [("letter", 2)]) (g := gName 2) (by rfl) sc_are_letters.nd (pi_str (pv 0)) (blkOk_by (N := ["letters", "alphabet", "letter"]) (sc := defScope s_are_letters) (by decide +kernel)) (fun _ _ _ _ _ => pg_name (i := 2) sc_are_letters.nd rfl (by first | exact Or.inl rfl | exact Or.inr rfl)) (fun _ _ _ _ _ => pts_nil) (fun _ _ _ _ _ => (pe_cmpR op_in_sign (pv 2) (pv 1) (by rfl)))) pa_nil))))))), ?_⟩
  walk_at "rd"
  have h1 := hz.len hA
  have h0 : 0 < z.length := by
    rw [len_tl]
    exact List.length_pos_iff.mpr hz.ne
  have h6 : z.length ≤ 6 := by
    have h1 := hz.sub.length_le
    have h2 := hA.hi
    rw [len_tl] at h2 ⊢
    omega
  refine ⟨by rw [szl]; omega, num_if (by omega) ⟨z, rfl, hA.asc.sublist hz.sub, h6, fun H1 e1 => ⟨true, rfl, ?_⟩⟩⟩
  rw [if_pos rfl]
  refine allStr (fun R h => ⟨_, rfl, h⟩) (by omega) (fun i c H' R hc ev k => ?_) (fun D bs H' ev hl hb => ⟨D, rfl, bs, SqL.of hl, by rw [hb]; exact q H' (e1.trans ev)⟩)
  walk_at "rd"
  refine ⟨c, rfl, ?_⟩
  have hm : c ∈ al.cps.toList := hz.sub.subset (cp_mem hc)
  rw [decide_eq_true hm]
  exact k H' (Ev.refl _) fun _ _ e => e
def spCalph : Sp := fun vs H Q _ => ∃ z : Str, vs = [.str z] ∧ Alph z ∧ ∀ H', Ev [] H H' → Q .non H'
theorem ok_calph (F : Fun K "check_alphabet" "check_alphabet" s_check_alphabet f fd) (T : Gw mg Ra Aa Ba Ca) (C_is_alphabet : Cl P w K mg base "is_alphabet" 2 ["text"] spAlph) : FnOk P w K mg base CX0 3 f fd ["alphabet"] spCalph := by
  refine F.ok sc_check_alphabet (fun vs H Q E h => ?_) (fun cdv A outer s H vs Q E hr h => ?_)
  · obtain ⟨z, rfl, _⟩ := h
    rfl
  obtain ⟨z, rfl, hz, q⟩ := h
  refine ⟨_, (pss_one (ps_if (pt_not (pt_val (pe_call C_is_alphabet.ok (hr.mono (by omega)) (by rfl) C_is_alphabet.mg C_is_alphabet.kp C_is_alphabet.b .nil pass0 (pa_cons (pv 0) pa_nil)))) (pss_one ps_never) pss_nil)), ?_⟩
  walk_at "rd"
  refine ⟨z, rfl, hz, fun H' e => ⟨true, rfl, ?_⟩⟩
  rw [if_neg (by decide)]
  exact q H' e
def spCname : Sp := fun vs H Q _ => ∃ z : Str, vs = [.str z] ∧ NameOk z ∧ ∀ H', Ev [] H H' → Q .non H'
theorem ok_cname (F : Fun K "check_name" "check_name" s_check_name f fd) (T : Gw mg Ra Aa Ba Ca) (C_is_name : Cl P w K mg base "is_name" 3 ["text"] spName) : FnOk P w K mg base CX0 4 f fd ["name"] spCname := by
  refine F.ok sc_check_name (fun vs H Q E h => ?_) (fun cdv A outer s H vs Q E hr h => ?_)
  · obtain ⟨z, rfl, _⟩ := h
    rfl
  obtain ⟨z, rfl, hz, q⟩ := h
  refine ⟨_, (pss_one (ps_if (pt_not (pt_val (pe_call C_is_name.ok (hr.mono (by omega)) (by rfl) C_is_name.mg C_is_name.kp C_is_name.b .nil pass0 (pa_cons (pv 0) pa_nil)))) (pss_one ps_never) pss_nil)), ?_⟩
  walk_at "rd"
  refine ⟨z, rfl, hz, fun H' e => ⟨true, rfl, ?_⟩⟩
  rw [if_neg (by decide)]
  exact q H' e
def spClet : Sp := fun vs H Q _ => ∃ z al : Str, vs = [.str z, .str al] ∧ LetOk al z ∧ Alph al ∧ ∀ H', Ev [] H H' → Q .non H'
theorem ok_clet (F : Fun K "check_letters" "check_letters" s_check_letters f fd) (T : Gw mg Ra Aa Ba Ca) (C_are_letters : Cl P w K mg base "are_letters" 2 ["letters", "alphabet"] spAre) : FnOk P w K mg base CX0 3 f fd ["letters", "alphabet"] spClet := by
  refine F.ok sc_check_letters (fun vs H Q E h => ?_) (fun cdv A outer s H vs Q E hr h => ?_)
  · obtain ⟨z, al, rfl, _⟩ := h
    rfl
  obtain ⟨z, al, rfl, hz, hA, q⟩ := h
  refine ⟨_, (pss_one (ps_if (pt_not (pt_val (pe_call C_are_letters.ok (hr.mono (by omega)) (by rfl) C_are_letters.mg C_are_letters.kp C_are_letters.b .nil pass0 (pa_cons (pv 0) (pa_cons (pv 1) pa_nil))))) (pss_one ps_never) pss_nil)), ?_⟩
  walk_at "rd"
  refine ⟨z, al, rfl, hz, hA, fun H' e => ⟨true, rfl, ?_⟩⟩
  rw [if_neg (by decide)]
  exact q H' e
def spCtext : Sp := fun vs H Q _ => ∃ z pr : Str, vs = [.str z, .str pr] ∧ z.length ≤ 40 ∧ (∀ c ∈ tl z, c ∈ tl pr) ∧ ∀ H', Ev [] H H' → Q .non H'
theorem ok_ctext (F : Fun K "check_text" "check_text" s_check_text f fd) (T : Gw mg Ra Aa Ba Ca) : FnOk P w K mg base CX0 1 f fd ["text", "alphabet"] spCtext := by
  refine F.ok sc_check_text (fun vs H Q E h => ?_) (fun cdv A outer s H vs Q E hr h => ?_)
  · obtain ⟨z, pr, rfl, _⟩ := h
    rfl
  obtain ⟨z, pr, rfl, hl, hz, q⟩ := h
  refine ⟨_, (pss_one (ps_for PassesOwn.never (by rfl) (pi_enumS (by rfl) T.b_enumerate (pa_cons (pv 0) pa_nil)) (pg_tup (n := 2) (by rfl) (pgs_cons (pg_name (i := 2) sc_check_text.nd rfl (by first | exact Or.inl rfl | exact Or.inr rfl)) (pgs_cons (pg_name (i := 3) sc_check_text.nd rfl (by first | exact Or.inl rfl | exact Or.inr rfl)) pgs_nil))) (pss_one (ps_if (pt_cmpR op_notIn_sign (pv 3) (pv 1) (by rfl)) (pss_one ps_never) pss_nil)))), ?_⟩
  walk_at "rd"
  refine ⟨_, rfl, z, rfl, for_it walk_new (fun i σ H' => ∃ c d, σ = [some (.str z), some (.str pr), c, d] ∧ Ev [] H H') ⟨none, none, rfl, Ev.refl _⟩ (fun _ _ _ _ _ => trivial) ?_ ?_⟩
  · rintro i v σ H1 H' hi ⟨c, d, rfl, ev⟩ ⟨p, rfl, hp, rfl⟩
    walk_at "rd"
    have g1 : z.cps.getD i 0 ∈ tl z := by
      have : z.cps[i]? = some (z.cps.getD i 0) := by
        rw [Array.getD_eq_getD_getElem?, Array.getElem?_eq_getElem hi]
        rfl
      exact cp_mem this
    have hc : z.cps.getD i 0 ∈ pr.cps.toList := hz _ g1
    refine ⟨_, SqT.of upd_same, rfl, _, _, rfl, _, _, rfl, rfl, _, rfl, ?_⟩
    rw [if_neg (by rw [decide_eq_true hc]; decide)]
    exact ev.trans (Ev.new hp _)
  · rintro σ H' ⟨c, d, rfl, ev⟩
    exact q H' ev
end
end TW
/-! C2 -/
set_option Elab.async false
set_option linter.all false
set_option maxRecDepth 100000
set_option maxHeartbeats 4000000
namespace TW
open PySem L2 TL
local macro_rules | `(tactic| walk_at "rd") => `(tactic| simp only [tSeq, tAsg, tOp, tUn, tVar, tCB, tCons, tNil, tRet, tDrop, gName, gSub, gTup, gCons, gNil, rI, rI0, rU, rIxL, rIxT, rIxS, rSetL, tC, L2.start, cxOf, tIfS, tIf, tTest, tB, tAnd, tOr, tNot, tAndV, tOrV, tNotV, tChain, tTup, tLst, tCall, tNext, tNever,
  rEq, rNe, tBM, tBM0, rCat, rRep, rIn, tSl, rSlL, rSlT, rSlS, rAll, rAny, rSortedS, rAppend, rPop, rExtend, tyV, tFld, tM1, tJs, tRev, tKGet, rRvL, rRvT, rRvS, rExtendT, rLstS, rRepS, tNoPart, tPart, tYes, StX.tStar, wipe, tFmtS, rIxD, tOrT, tMake, tMakeK, tCallN,
  List.map, List.length, List.replicate, List.append, List.nil_append, List.cons_append, List.append_nil, List.set, Nat.zero_add, Nat.add_zero, Nat.reduceAdd, Nat.reduceSub, List.getElem?_cons_zero, List.getElem?_cons_succ, List.length_cons, List.length_nil, List.set_cons_zero, List.set_cons_succ, List.getElem?_nil, Option.some.injEq, V.ref.injEq, V.int.injEq, V.str.injEq, V.bl.injEq, List.cons.injEq, and_true, true_and, exists_eq_left, exists_eq_left', exists_eq', exists_eq, exists_and_left, exists_const, reduceCtorEq, false_or, or_false, true_or, or_true, false_and, and_false, and_assoc, if_true, if_false, Bool.false_eq_true, Bool.true_eq_false])
local macro_rules | `(tactic| walk_at "rdd") => `(tactic| simp only [tSeq, tAsg, tOp, tUn, tVar, tCB, tCons, tNil, tRet, tDrop, gName, gSub, gTup, gCons, gNil, rI, rI0, rU, rIxL, rIxT, rIxS, rSetL, tC, L2.start, cxOf, tIfS, tIf, tTest, tB, tAnd, tOr, tNot, tAndV, tOrV, tNotV, tChain, tTup, tLst, tCall, tNext, tNever,
  rEq, rNe, tBM, tBM0, rCat, rRep, rIn, tSl, rSlL, rSlT, rSlS, rAll, rAny, rSortedS, rAppend, rPop, rExtend, tyV, tFld, tM1, tJs, tRev, tKGet, rRvL, rRvT, rRvS, rExtendT, rLstS, rRepS, tNoPart, tPart, tYes, StX.tStar, wipe, tFmtS, rIxD, tOrT, tMake, tMakeK, tCallN, tFor, tWhile, tLc, iList, iTup, iSeq, iStr, iRng1, iRng2, iEnumS, iZipS,
  List.map, List.length, List.replicate, List.append, List.nil_append, List.cons_append, List.append_nil, List.set, Nat.zero_add, Nat.add_zero, Nat.reduceAdd, Nat.reduceSub, List.getElem?_cons_zero, List.getElem?_cons_succ, List.length_cons, List.length_nil, List.set_cons_zero, List.set_cons_succ, List.getElem?_nil, Option.some.injEq, V.ref.injEq, V.int.injEq, V.str.injEq, V.bl.injEq, List.cons.injEq, and_true, true_and, exists_eq_left, exists_eq_left', exists_eq', exists_eq, exists_and_left, exists_const, reduceCtorEq, false_or, or_false, true_or, or_true, false_and, and_false, and_assoc, if_true, if_false, Bool.false_eq_true, Bool.true_eq_false])
def KSz (K : PySem.W.Frag) (w : World) (d : Addr) (tbl : List (String × Int)) : Prop := KAt K w d ∧ ∀ x n, (x, n) ∈ tbl → ∃ t, PySem.W.nsIn K d (Str.ofString x) = some (some (.int n t))
def tSizes : List (String × Int) := [("in", 3), ("before", 3), ("same", 3), ("mark", 2), ("not", 2), ("and", 3), ("or", 3)]
def sSizes : List (String × Int) := [("for", 4), ("mark", 3), ("set", 2), ("clear", 2), ("if", 4), ("print", 2), ("copy", 2)]
section
variable {P : Program} {w : World} {K : PySem.W.Frag} {mg : Str → Option Value} {base : Heap} {f g : Addr} {fd gd : FuncData} {Ra Aa Ba Ca : Addr}
/-- while xs: .. , xs a list -/
theorem whileL {K : PySem.W.Frag} {i : Nat} {tb : TS} {D : Ends} {σ : St} {H : Hp} (W : Nat → St → Hp → Prop) (h0 : ∃ m, W m σ H)
    (hs : ∀ m σ H, W m σ H → ∃ a xs, σ[i]? = some (some (.ref a)) ∧ H a = some (.lst xs) ∧ (∀ ys y, xs = ys ++ [y] → tb { D with nx := fun σ' H' => ∃ m', m' < m ∧ W m' σ' H', ct := fun σ' H' => ∃ m', m' < m ∧ W m' σ' H', bk := D.nx } σ H) ∧ (xs = [] → D.nx σ H)) :
    tWhile (fun σ H Q => tVar i σ H fun x H' => ∃ k, TruV K x H' k ∧ Q k H') tb D σ H := by
  refine ⟨W, h0, fun m σ H hW => ?_⟩
  obtain ⟨a, xs, e, hl, h1, h2⟩ := hs m σ H hW
  refine ⟨_, e, !xs.isEmpty, .inl ⟨xs, SqL.of hl, rfl⟩, ?_⟩
  rcases List.eq_nil_or_concat xs with rfl | ⟨ys, y, rfl⟩
  · rw [if_neg (by decide)]
    exact h2 rfl
  · rw [if_pos (by simp)]
    exact ⟨_, fun σ' H' h => h, h1 ys y (List.concat_eq_append ..)⟩
def Tst.kids : Tst → List Tst
  | .no t => [t]
  | .bi _ a b => [a, b]
  | _ => []
def Tst.sz : Tst → Nat
  | .no t => t.sz + 1
  | .bi _ a b => a.sz + b.sz + 1
  | _ => 1
def szs (l : List Tst) : Nat := (l.map Tst.sz).sum
theorem szs_append (a b : List Tst) : szs (a ++ b) = szs a + szs b := by simp [szs]
theorem sz_pos (t : Tst) : 1 ≤ t.sz := by cases t <;> simp [Tst.sz]
theorem szs_kids (t : Tst) : szs t.kids + 1 = t.sz := by cases t <;> simp [Tst.kids, Tst.sz, szs]
theorem szs_rev (l : List Tst) : szs l.reverse = szs l := by
  unfold szs
  rw [List.map_reverse, List.sum_reverse]
theorem RepL.rev {m : Bool} {H : Hp} : ∀ {ds : List D} {vs : List V}, RepL m H vs ds → RepL m H vs.reverse ds.reverse
  | [], vs, h => by
    cases RepL.nilIff.mp h
    exact RepL.nil
  | d :: ds, vs, h => by
    obtain ⟨x, r, rfl, h1, h2⟩ := RepL.consIff.mp h
    rw [List.reverse_cons, List.reverse_cons]
    exact (RepL.rev h2).append (.one h1)
theorem szs_len : ∀ (l : List Tst), l.length ≤ szs l
  | [] => Nat.zero_le _
  | t :: r => by
    have := szs_len r
    have := sz_pos t
    simp [szs] at *
    omega
theorem sz_dep : ∀ (t : Tst), t.sz + 1 ≤ 2 * 2 ^ t.dep
  | .p3 w x y => by simp [Tst.sz, Tst.dep]
  | .mk m => by simp [Tst.sz, Tst.dep]
  | .no t => by
    have := sz_dep t
    simp only [Tst.sz, Tst.dep, Nat.pow_succ]
    omega
  | .bi w a b => by
    have := sz_dep a
    have := sz_dep b
    have m1 : 2 ^ a.dep ≤ 2 ^ max a.dep b.dep := Nat.pow_le_pow_right (by omega) (Nat.le_max_left _ _)
    have m2 : 2 ^ b.dep ≤ 2 ^ max a.dep b.dep := Nat.pow_le_pow_right (by omega) (Nat.le_max_right _ _)
    simp only [Tst.sz, Tst.dep, Nat.pow_succ]
    omega
theorem sz32 {t : Tst} (h : t.dep ≤ 4) : t.sz ≤ 31 := by
  have := sz_dep t
  have : 2 ^ t.dep ≤ 2 ^ 4 := Nat.pow_le_pow_right (by omega) h
  omega
/-- the word a test starts with, and how many parts it has -/
def Tst.wd : Tst → Str
  | .p3 w _ _ => w
  | .mk _ => Str.ofString "mark"
  | .no _ => Str.ofString "not"
  | .bi w _ _ => w
def Tst.ar : Tst → List D
  | .p3 _ x y => [.s x, .s y]
  | .mk m => [.s m]
  | .no t => [t.enc]
  | .bi _ a b => [a.enc, b.enc]
theorem enc_eq (t : Tst) : t.enc = .n (.s t.wd :: t.ar) := by cases t <;> rfl
/-- a frozen tuple that starts with a word -/
theorem repT {H : Hp} {v : V} {x : Str} {ds : List D} (h : Rep true H v (.n (.s x :: ds))) : ∃ a us, v = .ref a ∧ H a = some (.tup (.str x :: us)) ∧ RepL true H us ds := by
  obtain ⟨a, xs, e, hs, hL⟩ := Rep.seqIff.mp h
  obtain ⟨x0, r0, rfl, h0, hL0⟩ := RepL.consIff.mp hL
  cases Rep.strIff.mp h0
  rcases hs with hs | ⟨z, _⟩
  · exact ⟨a, r0, e, hs, hL0⟩
  · cases z
theorem RepL.snoc {m : Bool} {H : Hp} : ∀ {ys : List V} {y : V} {ds : List D}, RepL m H (ys ++ [y]) ds → ∃ ds' d, ds = ds' ++ [d] ∧ RepL m H ys ds' ∧ Rep m H y d
  | [], y, ds, h => by
    cases ds with
    | nil => cases RepL.nilIff.mp h
    | cons d ds =>
      obtain ⟨x, r, e, h1, h2⟩ := RepL.consIff.mp h
      cases e
      cases ds with
      | nil => exact ⟨[], d, rfl, RepL.nil, h1⟩
      | cons d2 ds =>
        obtain ⟨_, _, e, _, _⟩ := RepL.consIff.mp h2
        cases e
  | z :: ys, y, ds, h => by
    cases ds with
    | nil => cases RepL.nilIff.mp h
    | cons d ds =>
      obtain ⟨x, r, e, h1, h2⟩ := RepL.consIff.mp h
      cases e
      obtain ⟨ds', d', rfl, h3, h4⟩ := RepL.snoc h2
      exact ⟨d :: ds', d', rfl, .cons h1 h3, h4⟩
theorem RepL.snocM {α : Type} {f : α → D} {m : Bool} {H : Hp} {ys : List V} {y : V} {st : List α} (h : RepL m H (ys ++ [y]) (st.map f)) : ∃ st' t, st = st' ++ [t] ∧ RepL m H ys (st'.map f) ∧ Rep m H y (f t) := by
  obtain ⟨ds', d, e, h1, h2⟩ := RepL.snoc h
  obtain ⟨st1, st2, rfl, e1, e2⟩ := List.map_eq_append_iff.mp e
  obtain ⟨t, rfl, e3⟩ := List.map_eq_singleton_iff.mp e2
  subst e1 e3
  exact ⟨st1, t, rfl, h1, h2⟩
theorem at0 {α : Type} {x : α} {xs : List α} : atI (x :: xs) 0 = some x := at_ofN (j := 0) rfl
theorem at1 {α : Type} {x y : α} {xs : List α} : atI (x :: y :: xs) 1 = some y := at_ofN (j := 1) rfl
theorem at2 {α : Type} {x y z : α} {xs : List α} : atI (x :: y :: z :: xs) 2 = some z := at_ofN (j := 2) rfl
theorem at3 {α : Type} {x y z u : α} {xs : List α} : atI (x :: y :: z :: u :: xs) 3 = some u := at_ofN (j := 3) rfl
theorem Rep.updT {H : Hp} {D : Addr} {us : List V} {o : HO} {v : V} {d : TW.D} (h : Rep true H v d) (hD : H D = some (.lst us)) : Rep true (upd H D o) v d := by
  have := (RepL.one h).updT (o := o) hD
  obtain ⟨_, _, e, h, _⟩ := RepL.consIff.mp this
  cases e
  exact h
theorem tSz {K : PySem.W.Frag} {w : World} {d : Addr} (hZ : KSz K w d tSizes) {t : Tst} (h : t.sh) : ∃ tk, PySem.W.nsIn K d t.wd = some (some (.int ((t.ar.length + 1 : Nat) : Int) tk)) := by
  cases t with
  | p3 w x y =>
    rcases h.1 with rfl | rfl | rfl
    · exact hZ.2 "in" 3 (by simp [tSizes])
    · exact hZ.2 "before" 3 (by simp [tSizes])
    · exact hZ.2 "same" 3 (by simp [tSizes])
  | mk m => exact hZ.2 "mark" 2 (by simp [tSizes])
  | no t => exact hZ.2 "not" 2 (by simp [tSizes])
  | bi w x y =>
    rcases h.1 with rfl | rfl
    · exact hZ.2 "and" 3 (by simp [tSizes])
    · exact hZ.2 "or" 3 (by simp [tSizes])
theorem kids_sh {t : Tst} (h : t.sh) : ∀ x ∈ t.kids, x.sh := by
  cases t with
  | p3 w x y => simp [Tst.kids]
  | mk m => simp [Tst.kids]
  | no t =>
    have h' : t.sh := h
    simpa [Tst.kids] using h'
  | bi w x y =>
    have h1 := h.2.1
    have h2 := h.2.2
    intro z hz
    simp only [Tst.kids, List.mem_cons, List.not_mem_nil, or_false] at hz
    rcases hz with rfl | rfl
    · exact h1
    · exact h2
theorem kids_ok {al : Str} {L M : List Str} {t : Tst} (h : t.ok al L M) : ∀ x ∈ t.kids, x.ok al L M := by
  cases t with
  | p3 w x y => simp [Tst.kids]
  | mk m => simp [Tst.kids]
  | no t =>
    have h' : t.ok al L M := h
    simpa [Tst.kids] using h'
  | bi w x y =>
    have h1 := h.2.1
    have h2 := h.2.2
    intro z hz
    simp only [Tst.kids, List.mem_cons, List.not_mem_nil, or_false] at hz
    rcases hz with rfl | rfl
    · exact h1
    · exact h2
theorem cutV1 (y : V) (us : List V) : cutV (y :: us) (some 1) none = us := by
  unfold cutV
  rw [HT.sIx_none, show (1 : Int) = ((1 : Nat) : Int) from rfl, HT.sIx_nat]
  have : min 1 (y :: us).length = 1 := by rw [List.length_cons]; omega
  rw [this, List.drop_one, List.tail_cons]
  exact List.take_of_length_le (by rw [List.length_cons]; omega)
theorem sIx1 (y : V) (us : List V) (n : Nat) : ¬(HT.sIx (y :: us).length 0 (some 1) = 0 ∧ n = (y :: us).length) := by
  rw [show (1 : Int) = ((1 : Nat) : Int) from rfl, HT.sIx_nat]
  have : min 1 (y :: us).length = 1 := by rw [List.length_cons]; omega
  omega
theorem last_of (ys : List V) (y : V) : (ys ++ [y])[(ys ++ [y]).length - 1]? = some y := by simp
def spFirst : Sp := fun vs H Q _ => ∃ (v : V) (x : Str) (ds : List D), vs = [v] ∧ Rep true H v (.n (.s x :: ds)) ∧ Q (.str x) H
theorem ok_first (F : Fun K "first_word" "first_word" s_first_word f fd) (T : Gw mg Ra Aa Ba Ca) : FnOk P w K mg base CX0 1 f fd ["item"] spFirst := by
  refine F.ok sc_first_word (fun vs H Q E h => ?_) (fun cdv A outer s H vs Q E hr h => ?_)
  · obtain ⟨v, x, ds, rfl, _⟩ := h
    rfl
  obtain ⟨v, x, ds, rfl, hR, q⟩ := h
  obtain ⟨a, us, rfl, ha, hL⟩ := repT hR
  refine ⟨_, (pss_cons (ps_if (PW.pt (pw_and (pt_val (pe_callB (r := rIsi K) (id := "isinstance") call_isi (by rfl) T.b_isinstance (by decide +kernel) (pa_cons (pv 0) (pa_cons (pe_bltn (v := .ty "tuple") (by rfl) T.b_tuple (by decide +kernel) rfl) pa_nil)))) (pw_and (pt_cmpR op_gt (pe_callB call_len_seq (by rfl) T.b_len PySem.boot_len (pa_cons (pv 0) pa_nil)) pe_int (nomark _)) (pw_and1 (pt_val (pe_callB (r := rIsi K) (id := "isinstance") call_isi (by rfl) T.b_isinstance (by decide +kernel) (pa_cons (pe_ix (r := rIxT K) ix_tup (pv 0) pe_int (fun _ _ => rfl)) (pa_cons (pe_bltn (v := .ty "str") (by rfl) T.b_str (by decide +kernel) rfl) pa_nil)))))))) (pss_one (ps_ret (pe_ix (r := rIxT K) ix_tup (pv 0) pe_int (fun _ _ => rfl)))) pss_nil)
        (pss_one (ps_ret pe_str))), ?_⟩
  walk_at "rd"
  refine isi_tup ha rfl ⟨true, rfl, ?_⟩
  rw [if_pos rfl]
  refine ⟨_, .inr (SqT.of ha), ?_⟩
  rw [if_pos (by simp)]
  refine ⟨_, SqT.of ha, _, at0, isi_str rfl ⟨true, rfl, ?_⟩⟩
  rw [if_pos rfl]
  exact ⟨_, SqT.of ha, _, at0, q⟩
def spWithin : Sp := fun vs H Q _ => ∃ (v : V) (t : Tst), vs = [v] ∧ Rep true H v t.enc ∧ t.sh ∧ ∀ (p : Addr) (us : List V) (H' : Hp), Ev [] H H' → H' p = some (.tup us) → RepL true H' us (t.kids.map Tst.enc) → Q (.ref p) H'
theorem ok_within (F : Fun K "tests_within" "tests_within" s_tests_within f fd) (T : Gw mg Ra Aa Ba Ca) : FnOk P w K mg base CX0 1 f fd ["test"] spWithin := by
  refine F.ok sc_tests_within (fun vs H Q E h => ?_) (fun cdv A outer s H vs Q E hr h => ?_)
  · obtain ⟨v, t, rfl, _⟩ := h
    rfl
  obtain ⟨v, t, rfl, hR, hs, q⟩ := h
  rw [enc_eq] at hR
  obtain ⟨a, us, rfl, ha, hL⟩ := repT hR
  refine ⟨_, (pss_cons (ps_if (pt_cmpR op_in_seq (pe_ix (r := rIxT K) ix_tup (pv 0) pe_int (fun _ _ => rfl)) (pe_tup (pa_cons pe_str (pa_cons pe_str (pa_cons pe_str pa_nil)))) (by rfl)) (pss_one (ps_ret (pe_slice sl_tup (pv 0) (po_some pe_int) po_none))) pss_nil)
        (pss_one (ps_ret (pe_tup pa_nil)))), ?_⟩
  walk_at "rd"
  refine ⟨_, SqT.of ha, _, at0, by decide, fun p hp => ⟨_, .inr (SqT.of upd_same), rfl, by rfl, ?_⟩⟩
  have e1 : Ev [] H (upd H p (.tup [.str (Str.ofString "not"), .str (Str.ofString "and"), .str (Str.ofString "or")])) := Ev.new hp _
  have hin : inV (V.str t.wd) [.str (Str.ofString "not"), .str (Str.ofString "and"), .str (Str.ofString "or")] = decide (t.wd ∈ ["not", "and", "or"].map Str.ofString) := inV_strs t.wd (["not", "and", "or"].map Str.ofString)
  rw [hin]
  have hor : (t.wd ∈ ["not", "and", "or"].map Str.ofString ∧ t.kids.map Tst.enc = t.ar) ∨ (t.wd ∉ ["not", "and", "or"].map Str.ofString ∧ t.kids = []) := by
    cases t with
    | p3 w x y =>
      refine .inr ⟨?_, rfl⟩
      rcases hs.1 with h | h | h <;> (show w ∉ _; rw [h]; decide +kernel)
    | mk m => exact .inr ⟨by show Str.ofString "mark" ∉ _; decide +kernel, rfl⟩
    | no t => exact .inl ⟨by show Str.ofString "not" ∈ _; decide +kernel, rfl⟩
    | bi w x y =>
      refine .inl ⟨?_, rfl⟩
      rcases hs.1 with h | h <;> (show w ∈ _; rw [h]; decide +kernel)
  rcases hor with ⟨hm, hk⟩ | ⟨hm, hk⟩
  · rw [if_pos (decide_eq_true hm)]
    refine ⟨_, SqT.of (e1.kp.t _ _ ha), sIx1 _ _ _, fun p1 hp1 => ?_⟩
    rw [cutV1]
    exact q p1 us _ (e1.trans (Ev.new hp1 _)) upd_same (by rw [hk]; exact (hL.ev (e1.trans (Ev.new hp1 _))))
  · rw [if_neg (by rw [decide_eq_false hm]; decide)]
    exact ⟨by decide, fun p1 hp1 => q p1 [] _ (e1.trans (Ev.new hp1 _)) upd_same (by rw [hk]; exact RepL.nil)⟩
def spTform : Sp := fun vs H Q _ => ∃ (v : V) (t : Tst) (k : Int), vs = [v, .int k] ∧ Rep true H v t.enc ∧ t.sh ∧ t.dep ≤ 4 ∧ ∀ H', Ev [] H H' → Q .non H'
theorem ok_tform (F : Fun K "check_test_form" "check_test_form" s_check_test_form f fd) (T : Gw mg Ra Aa Ba Ca) (hZ : KSz K w Aa tSizes) (C_first_word : Cl P w K mg base "first_word" 1 ["item"] spFirst) (C_tests_within : Cl P w K mg base "tests_within" 1 ["test"] spWithin) : FnOk P w K mg base CX0 2 f fd ["test", "spot"] spTform := by
  refine F.ok sc_check_test_form (fun vs H Q E h => ?_) (fun cdv A outer s H vs Q E hr h => ?_)
  · obtain ⟨v, t, k, rfl, _⟩ := h
    rfl
  obtain ⟨v, t, k, rfl, hR, hs, hd, q⟩ := h
  refine ⟨_, (pss_cons (ps_set (i := 2) sc_check_test_form.nd rfl (by first | exact Or.inl rfl | exact Or.inr rfl) (pe_lst (pa_cons (pv 0) pa_nil)))
        (pss_one (ps_while PassesOwn.never (pt_truth (pv 2) (by intro _; rfl)) (pss_cons (ps_set (i := 3) sc_check_test_form.nd rfl (by first | exact Or.inl rfl | exact Or.inr rfl) (pe_bm0 PySem.F.plainAttrs_list PySem.F.slot_list_pop PySem.F.type_list_pop mt_pop (pv 2)))
          (pss_cons (ps_if (pt_cmpR op_ne (pe_kget2 (pe_glob (v := V.ref _) (by rfl) T.g_TEST_SIZES rfl) (pe_call C_first_word.ok (hr.mono (by omega)) (by rfl) C_first_word.mg C_first_word.kp C_first_word.b .nil pass0 (pa_cons (pv 3) pa_nil)) (pe_un un_neg pe_int) ⟨by rfl, by rfl, by rfl, by rfl⟩) (pe_callB call_len_seq (by rfl) T.b_len PySem.boot_len (pa_cons (pv 3) pa_nil)) (nomark _)) (pss_one ps_never) pss_nil)
          (pss_one (ps_expr (pe_bm PySem.F.plainAttrs_list PySem.F.slot_list_extend PySem.F.type_list_extend mt_extendT (pv 2) (pa_cons (pe_call C_tests_within.ok (hr.mono (by omega)) (by rfl) C_tests_within.mg C_tests_within.kp C_tests_within.b .nil pass0 (pa_cons (pv 3) pa_nil)) pa_nil))))))))), ?_⟩
  walk_at "rd"
  refine ⟨by decide, fun p hp => whileL (fun m σ H' => ∃ (st : List Tst) (us : List V) (c : Option V), σ = [some v, some (.int k), some (.ref p), c] ∧ m = szs st ∧ m ≤ 31 ∧ H' p = some (.lst us) ∧ RepL true H' us (st.map Tst.enc) ∧ (∀ x ∈ st, x.sh) ∧ Ev [] H H') ⟨_, [t], [v], none, rfl, rfl, by have := sz32 hd; simp [szs]; exact this, upd_same, (RepL.one hR).updN hp, by simpa using hs, (Ev.refl _).over hp⟩ ?_⟩
  rintro m σ H' ⟨st, us, c, rfl, rfl, hm, hl, hL, hsh, ev⟩
  refine ⟨p, us, rfl, hl, ?_, fun _ => q H' ev⟩
  rintro ys y rfl
  obtain ⟨st', t1, rfl, hL1, hy⟩ := hL.snocM
  have ev1 : Ev [] H (upd H' p (.lst ys)) := ev.over hp
  have hy1 : Rep true (upd H' p (.lst ys)) y t1.enc := hy.updT hl
  have hL2 := hL1.updT (o := .lst ys) hl
  have hs1 := hsh t1 (by simp)
  have hR1 := hy1
  rw [enc_eq] at hR1
  obtain ⟨a1, us1, rfl, ha1, hLa⟩ := repT hR1
  have hsum : szs (st' ++ [t1]) = szs st' + t1.sz := by rw [szs_append]; simp [szs]
  have hkid := szs_kids t1
  have hst := szs_len st'
  have hkl := szs_len t1.kids
  obtain ⟨tk, htk⟩ := tSz hZ hs1
  walk_at "rd"
  refine ⟨.inl ⟨_, SqL.of hl⟩, _, hl, .ref a1, last_of ys _, hZ.1, ?_⟩
  rw [List.dropLast_concat]
  refine ⟨.ref a1, t1.wd, t1.ar, rfl, hR1, _, rfl, _, htk, fun u e => ⟨.int _, ⟨tk, (Option.some.inj e).symm⟩, a1, rfl, _, .inr (SqT.of ha1), rfl, ?_⟩, fun e => by cases e⟩
  rw [if_neg (by rw [List.length_cons, hLa.len]; simp)]
  refine ⟨.inl ⟨_, SqL.of upd_same⟩, .ref a1, t1, rfl, hy1, hs1, fun p2 us2 H2 e2 h2 r2 => ?_⟩
  have hp2 := e2.kp.l _ _ hL2.items upd_same
  refine ⟨p2, rfl, ys, hp2, us2, h2, ?_, szs (st' ++ t1.kids), ?_, st' ++ t1.kids, rfl, ?_, _, upd_same, ?_, ?_, (ev1.trans e2).over hp⟩
  · rw [hL2.len, r2.len, List.length_map, List.length_map]
    exact Nat.le_of_lt (small1000 (by omega))
  · rw [szs_append]
    omega
  · rw [szs_append]
    omega
  · rw [List.map_append]
    exact ((hL2.ev e2).append r2).updT hp2
  · intro x hx
    rcases List.mem_append.mp hx with hx | hx
    · exact hsh x (List.mem_append_left _ hx)
    · exact kids_sh hs1 x hx
def Tst.simple : Tst → Prop
  | .p3 _ _ _ => True
  | .mk _ => True
  | _ => False
def spSimple : Sp := fun vs H Q _ => ∃ (v : V) (t : Tst) (al : Str) (L M : List Str), vs = [v] ∧ Rep true H v t.enc ∧ t.sh ∧ t.ok al L M ∧ t.dep ≤ 4 ∧ ∀ (p : Addr) (us : List V) (fs : List Tst) (H' : Hp), Ev [] H H' → H' p = some (.lst us) → RepL true H' us (fs.map Tst.enc) → (∀ x ∈ fs, x.simple ∧ x.sh ∧ x.ok al L M) → Q (.ref p) H'
theorem ok_simple (F : Fun K "simple_tests" "simple_tests" s_simple_tests f fd) (T : Gw mg Ra Aa Ba Ca) (C_tests_within : Cl P w K mg base "tests_within" 1 ["test"] spWithin) : FnOk P w K mg base CX0 2 f fd ["test"] spSimple := by
  refine F.ok sc_simple_tests (fun vs H Q E h => ?_) (fun cdv A outer s H vs Q E hr h => ?_)
  · obtain ⟨v, t, al, L, M, rfl, _⟩ := h
    rfl
  obtain ⟨v, t, al, L, M, rfl, hR, hs, ho, hd, q⟩ := h
  refine ⟨_, (pss_cons (ps_set (i := 1) sc_simple_tests.nd rfl (by first | exact Or.inl rfl | exact Or.inr rfl) (pe_lst pa_nil))
        (pss_cons (ps_set (i := 2) sc_simple_tests.nd rfl (by first | exact Or.inl rfl | exact Or.inr rfl) (pe_lst (pa_cons (pv 0) pa_nil)))
        (pss_cons (ps_while PassesOwn.never (pt_truth (pv 2) (by intro _; rfl)) (pss_cons (ps_set (i := 3) sc_simple_tests.nd rfl (by first | exact Or.inl rfl | exact Or.inr rfl) (pe_bm0 PySem.F.plainAttrs_list PySem.F.slot_list_pop PySem.F.type_list_pop mt_pop (pv 2)))
          (pss_cons (ps_set (i := 4) sc_simple_tests.nd rfl (by first | exact Or.inl rfl | exact Or.inr rfl) (pe_call C_tests_within.ok (hr.mono (by omega)) (by rfl) C_tests_within.mg C_tests_within.kp C_tests_within.b .nil pass0 (pa_cons (pv 3) pa_nil)))
          (pss_one (ps_if (pt_truth (pv 4) (by intro _; rfl)) (pss_one (ps_expr (pe_bm PySem.F.plainAttrs_list PySem.F.slot_list_extend PySem.F.type_list_extend mt_extendT (pv 2) (pa_cons (pe_rev rv_tup (pv 4)) pa_nil)))) (pss_one (ps_expr (pe_bm PySem.F.plainAttrs_list PySem.F.slot_list_append PySem.F.type_list_append mt_append (pv 1) (pa_cons (pv 3) pa_nil)))))))))
        (pss_one (ps_ret (pv 1)))))), ?_⟩
  walk_at "rd"
  refine ⟨by decide, fun pf hpf => ⟨by decide, fun p hp => whileL (fun m σ H' => ∃ (st fs : List Tst) (us ws : List V) (c d : Option V), σ = [some v, some (.ref pf), some (.ref p), c, d] ∧ m = szs st ∧ m + fs.length ≤ 31 ∧ H' p = some (.lst us) ∧ RepL true H' us (st.map Tst.enc) ∧ (∀ x ∈ st, x.sh ∧ x.ok al L M) ∧ H' pf = some (.lst ws) ∧ RepL true H' ws (fs.map Tst.enc) ∧ (∀ x ∈ fs, x.simple ∧ x.sh ∧ x.ok al L M) ∧ Ev [] H H') ?_ ?_⟩⟩
  · have e1 : Ev [] H (upd (upd H pf (.lst [])) p (.lst [v])) := (Ev.new hpf _).trans (Ev.new hp _)
    refine ⟨_, [t], [], [v], [], none, none, rfl, rfl, by have := sz32 hd; simp [szs]; exact this, upd_same, (RepL.one hR).ev e1, by simpa using ⟨hs, ho⟩, (upd_ne (ne_of_none upd_same hp)).trans upd_same, RepL.nil, by simp, e1⟩
  rintro m σ H' ⟨st, fs, us, ws, c, d, rfl, rfl, hm, hl, hL, hsh, hlf, hLf, hff, ev⟩
  refine ⟨p, us, rfl, hl, ?_, fun _ => ?_⟩
  · rintro ys y rfl
    obtain ⟨st', t1, rfl, hL1, hy⟩ := hL.snocM
    have hs1 := hsh t1 (by simp)
    have hpp : pf ≠ p := ne_of_none upd_same hp
    have hL2 := hL1.updT (o := .lst ys) hl
    have hLf2 := hLf.updT (o := .lst ys) hl
    have hlf2 : (upd H' p (.lst ys)) pf = some (.lst ws) := (upd_ne hpp).trans hlf
    have hp0 : H p = none := (Ev.new (l := []) hpf (.lst [])).free hp
    have ev1 : Ev [] H (upd H' p (.lst ys)) := ev.over hp0
    have hy1 : Rep true (upd H' p (.lst ys)) y t1.enc := hy.updT hl
    have hsum : szs (st' ++ [t1]) = szs st' + t1.sz := by rw [szs_append]; simp [szs]
    have hkid := szs_kids t1
    have hst := szs_len st'
    have hkl := szs_len t1.kids
    have h1sz := sz_pos t1
    walk_at "rd"
    refine ⟨.inl ⟨_, SqL.of hl⟩, _, hl, y, last_of ys _, ?_⟩
    rw [List.dropLast_concat]
    refine ⟨y, t1, rfl, hy1, hs1.1, fun p2 us2 H2 e2 h2 r2 => ⟨_, .inr (.inl ⟨us2, SqT.of h2, rfl⟩), ?_⟩⟩
    have hp2 := e2.kp.l _ _ hL2.items upd_same
    have hpf2 := e2.kp.l _ _ hLf2.items hlf2
    have hL3 := hL2.ev e2
    have hLf3 := hLf2.ev e2
    by_cases hk : t1.kids = []
    · rw [hk] at r2 hkid
      cases RepL.nilIff.mp r2
      rw [if_neg (by decide)]
      refine ⟨.inl ⟨_, SqL.of hpf2⟩, _, hpf2, ?_, szs st', ?_, st', rfl, fs ++ [t1], ?_, ys, (upd_ne hpp.symm).trans hp2, hL3.updT hpf2, fun x hx => hsh x (List.mem_append_left _ hx), _, upd_same, ?_, ?_, (ev1.trans e2).over hpf⟩
      · rw [hLf3.len, List.length_map]
        exact small1000 (by omega)
      · omega
      · rw [List.length_append, List.length_singleton]
        have : szs [] = 0 := rfl
        omega
      · rw [List.map_append]
        exact (hLf3.append (.one (hy1.ev e2))).updT hpf2
      · intro x hx
        rcases List.mem_append.mp hx with hx | hx
        · exact hff x hx
        · rw [List.mem_singleton.mp hx]
          refine ⟨?_, hs1⟩
          cases t1 <;> simp [Tst.kids] at hk <;> exact trivial
    · have hne : us2 ≠ [] := fun z => by
        have := r2.len
        rw [z, List.length_map] at this
        exact hk (List.length_eq_zero_iff.mp this.symm)
      rw [if_pos (by cases us2 with | nil => exact absurd rfl hne | cons _ _ => rfl)]
      refine ⟨.inl ⟨_, SqL.of hp2⟩, p2, rfl, _, SqT.of h2, fun p3 hp3 => ⟨ys, (upd_ne (ne_of_none hp2 hp3)).trans hp2, _, upd_same, ?_, szs (st' ++ t1.kids.reverse), ?_, st' ++ t1.kids.reverse, rfl, fs, ?_, _, upd_same, ?_, ?_, ws, ?_, ?_, hff, ((ev1.trans e2).trans (Ev.new hp3 _)).over hp0⟩⟩
      · rw [List.length_reverse, hL3.len, r2.len, List.length_map, List.length_map]
        exact Nat.le_of_lt (small1000 (by omega))
      · rw [szs_append, szs_rev]
        omega
      · rw [szs_append, szs_rev]
        omega
      · rw [List.map_append, List.map_reverse]
        exact ((hL3.append (RepL.rev r2)).updN hp3).updT ((upd_ne (ne_of_none hp2 hp3)).trans hp2)
      · intro x hx
        rcases List.mem_append.mp hx with hx | hx
        · exact hsh x (List.mem_append_left _ hx)
        · have hx := List.mem_reverse.mp hx
          exact ⟨kids_sh hs1.1 x hx, kids_ok hs1.2 x hx⟩
      · exact (upd_ne hpp).trans ((upd_ne (ne_of_none hpf2 hp3)).trans hpf2)
      · exact (hLf3.updN hp3).updT ((upd_ne (ne_of_none hp2 hp3)).trans hp2)
  · walk_at "rd"
    exact q pf ws fs H' ev hlf hLf hff
def spKnown : Sp := fun vs H Q _ => ∃ (x : Str) (a : Addr) (l : List Str), vs = [.str x, .ref a] ∧ H a = some (.tup (l.map V.str)) ∧ x ∈ l ∧ Q .non H
theorem ok_known (F : Fun K "check_known" "check_known" s_check_known f fd) (T : Gw mg Ra Aa Ba Ca) : FnOk P w K mg base CX0 1 f fd ["name", "names"] spKnown := by
  refine F.ok sc_check_known (fun vs H Q E h => ?_) (fun cdv A outer s H vs Q E hr h => ?_)
  · obtain ⟨x, a, l, rfl, _⟩ := h
    rfl
  obtain ⟨x, a, l, rfl, ha, hx, q⟩ := h
  refine ⟨_, (pss_one (ps_if (pt_cmpR op_notIn_seq (pv 0) (pv 1) (by rfl)) (pss_one ps_never) pss_nil)), ?_⟩
  walk_at "rd"
  refine ⟨_, .inr (SqT.of ha), rfl, flat_strs _, ?_⟩
  rw [inV_strs, decide_eq_true hx, if_neg (by decide)]
  exact q
def spTnames : Sp := fun vs H Q _ => ∃ (v : V) (t : Tst) (al : Str) (la ma : Addr) (L M : List Str), vs = [v, .str al, .ref la, .ref ma] ∧ Rep true H v t.enc ∧ t.sh ∧ t.ok al L M ∧ t.dep ≤ 4 ∧ Alph al ∧ H la = some (.tup (L.map V.str)) ∧ H ma = some (.tup (M.map V.str)) ∧ ∀ H', Ev [] H H' → Q .non H'
theorem ok_tnames (F : Fun K "check_test_names" "check_test_names" s_check_test_names f fd) (T : Gw mg Ra Aa Ba Ca) (C_simple_tests : Cl P w K mg base "simple_tests" 2 ["test"] spSimple) (C_check_known : Cl P w K mg base "check_known" 1 ["name", "names"] spKnown) (C_check_letters : Cl P w K mg base "check_letters" 3 ["letters", "alphabet"] spClet) : FnOk P w K mg base CX0 4 f fd ["test", "reads", "loops", "marks"] spTnames := by
  refine F.ok sc_check_test_names (fun vs H Q E h => ?_) (fun cdv A outer s H vs Q E hr h => ?_)
  · obtain ⟨v, t, al, la, ma, L, M, rfl, _⟩ := h
    rfl
  obtain ⟨v, t, al, la, ma, L, M, rfl, hR, hs, ho, hd, hA, hla, hma, q⟩ := h
  refine ⟨_, (pss_one (ps_for PassesOwn.never (by rfl) (pi_list (pe_call C_simple_tests.ok (hr.mono (by omega)) (by rfl) C_simple_tests.mg C_simple_tests.kp C_simple_tests.b .nil pass0 (pa_cons (pv 0) pa_nil))) (pg_name (i := 4) sc_check_test_names.nd rfl (by first | exact Or.inl rfl | exact Or.inr rfl)) (pss_one (ps_if (pt_cmpR op_eq (pe_ix (r := rIxT K) ix_tup (pv 4) pe_int (fun _ _ => rfl)) pe_str (nomark _)) (pss_one (ps_expr (pe_call C_check_known.ok (hr.mono (by omega)) (by rfl) C_check_known.mg C_check_known.kp C_check_known.b .nil pass0 (pa_cons (pe_ix (r := rIxT K) ix_tup (pv 4) pe_int (fun _ _ => rfl)) (pa_cons (pv 3) pa_nil))))) (pss_one (ps_if (pt_cmpR op_eq (pe_ix (r := rIxT K) ix_tup (pv 4) pe_int (fun _ _ => rfl)) pe_str (nomark _)) (pss_cons (ps_expr (pe_call C_check_known.ok (hr.mono (by omega)) (by rfl) C_check_known.mg C_check_known.kp C_check_known.b .nil pass0 (pa_cons (pe_ix (r := rIxT K) ix_tup (pv 4) pe_int (fun _ _ => rfl)) (pa_cons (pv 2) pa_nil))))
              (pss_one (ps_expr (pe_call C_check_letters.ok (hr.mono (by omega)) (by rfl) C_check_letters.mg C_check_letters.kp C_check_letters.b .nil pass0 (pa_cons (pe_ix (r := rIxT K) ix_tup (pv 4) pe_int (fun _ _ => rfl)) (pa_cons (pv 1) pa_nil)))))) (pss_cons (ps_expr (pe_call C_check_known.ok (hr.mono (by omega)) (by rfl) C_check_known.mg C_check_known.kp C_check_known.b .nil pass0 (pa_cons (pe_ix (r := rIxT K) ix_tup (pv 4) pe_int (fun _ _ => rfl)) (pa_cons (pv 2) pa_nil))))
              (pss_one (ps_expr (pe_call C_check_known.ok (hr.mono (by omega)) (by rfl) C_check_known.mg C_check_known.kp C_check_known.b .nil pass0 (pa_cons (pe_ix (r := rIxT K) ix_tup (pv 4) pe_int (fun _ _ => rfl)) (pa_cons (pv 2) pa_nil)))))))))))), ?_⟩
  walk_at "rd"
  refine ⟨_, rfl, v, t, al, L, M, rfl, hR, hs, ho, hd, fun p us fs H1 e1 hp hF hf => ⟨p, rfl, ⟨us, SqL.of hp⟩, for_list (xs := us) (fun i σ H' => ∃ c, σ = [some v, some (.str al), some (.ref la), some (.ref ma), c] ∧ Ev [] H1 H') ⟨none, rfl, Ev.refl _⟩ (fun i σ H' _ ⟨c, _, e⟩ => SqL.of (e.kp.l _ _ hF.items hp)) ?_ ?_⟩⟩
  · rintro i y σ H' hy ⟨c, rfl, e2⟩
    obtain ⟨d, hd', hr⟩ := hF.get' hy
    rw [List.getElem?_map] at hd'
    obtain ⟨x, hxi, rfl⟩ := Option.map_eq_some_iff.mp hd'
    obtain ⟨xs1, xsh, xok⟩ := hf x (List.mem_of_getElem? hxi)
    have hr2 := hr.ev e2
    have hla2 := (e1.trans e2).kp.t _ _ hla
    have hma2 := (e1.trans e2).kp.t _ _ hma
    rw [enc_eq] at hr2
    obtain ⟨a1, us1, rfl, ha1, hLa⟩ := repT hr2
    walk_at "rd"
    cases x with
    | no t => exact xs1.elim
    | bi w a b => exact xs1.elim
    | mk x =>
      obtain ⟨x0, r0, rfl, h0, hL0⟩ := RepL.consIff.mp hLa
      cases Rep.strIff.mp h0
      cases RepL.nilIff.mp hL0
      refine ⟨_, SqT.of ha1, _, at0, eqT ⟨_, SqT.of ha1, _, at1, x, ma, M, rfl, hma2, xok, e2⟩⟩
    | p3 w x z =>
      obtain ⟨x0, r0, rfl, h0, hL0⟩ := RepL.consIff.mp hLa
      obtain ⟨x1, r1, rfl, h1, hL1⟩ := RepL.consIff.mp hL0
      cases Rep.strIff.mp h0
      cases Rep.strIff.mp h1
      cases RepL.nilIff.mp hL1
      have n1 : w ≠ Str.ofString "mark" := by rcases xsh.1 with rfl | rfl | rfl <;> decide +kernel
      refine ⟨_, SqT.of ha1, _, at0, neT n1 ⟨_, SqT.of ha1, _, at0, ?_⟩⟩
      rcases xok with ⟨rfl, hx, hz⟩ | ⟨hw, hx, hz⟩
      · exact eqT ⟨_, SqT.of ha1, _, at1, x, la, L, rfl, hla2, hx, _, SqT.of ha1, _, at2, z, al, rfl, hz, hA, fun H3 e3 => e2.trans e3⟩
      · have n2 : w ≠ Str.ofString "in" := by rcases hw with rfl | rfl <;> decide +kernel
        exact neT n2 ⟨_, SqT.of ha1, _, at1, x, la, L, rfl, hla2, hx, _, SqT.of ha1, _, at2, z, la, L, rfl, hla2, hz, e2⟩
  · rintro σ H' ⟨c, rfl, e2⟩
    exact q H' (e1.trans e2)
end
end TW
/-! C3 -/
set_option Elab.async false
set_option linter.all false
set_option maxRecDepth 100000
set_option maxHeartbeats 4000000
namespace TW
open PySem L2 TL
local macro_rules | `(tactic| walk_at "rd") => `(tactic| simp only [tSeq, tAsg, tOp, tUn, tVar, tCB, tCons, tNil, tRet, tDrop, gName, gSub, gTup, gCons, gNil, rI, rI0, rU, rIxL, rIxT, rIxS, rSetL, tC, L2.start, cxOf, tIfS, tIf, tTest, tB, tAnd, tOr, tNot, tAndV, tOrV, tNotV, tChain, tTup, tLst, tCall, tNext, tNever,
  rEq, rNe, tBM, tBM0, rCat, rRep, rIn, tSl, rSlL, rSlT, rSlS, rAll, rAny, rSortedS, rAppend, rPop, rExtend, tyV, tFld, tM1, tJs, tRev, tKGet, rRvL, rRvT, rRvS, rExtendT, rLstS, rRepS, tNoPart, tPart, tYes, StX.tStar, wipe, tFmtS, rIxD, tOrT, tMake, tMakeK, tCallN,
  List.map, List.length, List.replicate, List.append, List.nil_append, List.cons_append, List.append_nil, List.set, Nat.zero_add, Nat.add_zero, Nat.reduceAdd, Nat.reduceSub, List.getElem?_cons_zero, List.getElem?_cons_succ, List.length_cons, List.length_nil, List.set_cons_zero, List.set_cons_succ, List.getElem?_nil, Option.some.injEq, V.ref.injEq, V.int.injEq, V.str.injEq, V.bl.injEq, List.cons.injEq, and_true, true_and, exists_eq_left, exists_eq_left', exists_eq', exists_eq, exists_and_left, exists_const, reduceCtorEq, false_or, or_false, true_or, or_true, false_and, and_false, and_assoc, if_true, if_false, Bool.false_eq_true, Bool.true_eq_false])
local macro_rules | `(tactic| walk_at "rdd") => `(tactic| simp only [tSeq, tAsg, tOp, tUn, tVar, tCB, tCons, tNil, tRet, tDrop, gName, gSub, gTup, gCons, gNil, rI, rI0, rU, rIxL, rIxT, rIxS, rSetL, tC, L2.start, cxOf, tIfS, tIf, tTest, tB, tAnd, tOr, tNot, tAndV, tOrV, tNotV, tChain, tTup, tLst, tCall, tNext, tNever,
  rEq, rNe, tBM, tBM0, rCat, rRep, rIn, tSl, rSlL, rSlT, rSlS, rAll, rAny, rSortedS, rAppend, rPop, rExtend, tyV, tFld, tM1, tJs, tRev, tKGet, rRvL, rRvT, rRvS, rExtendT, rLstS, rRepS, tNoPart, tPart, tYes, StX.tStar, wipe, tFmtS, rIxD, tOrT, tMake, tMakeK, tCallN, tFor, tWhile, tLc, iList, iTup, iSeq, iStr, iRng1, iRng2, iEnumS, iZipS,
  List.map, List.length, List.replicate, List.append, List.nil_append, List.cons_append, List.append_nil, List.set, Nat.zero_add, Nat.add_zero, Nat.reduceAdd, Nat.reduceSub, List.getElem?_cons_zero, List.getElem?_cons_succ, List.length_cons, List.length_nil, List.set_cons_zero, List.set_cons_succ, List.getElem?_nil, Option.some.injEq, V.ref.injEq, V.int.injEq, V.str.injEq, V.bl.injEq, List.cons.injEq, and_true, true_and, exists_eq_left, exists_eq_left', exists_eq', exists_eq, exists_and_left, exists_const, reduceCtorEq, false_or, or_false, true_or, or_true, false_and, and_false, and_assoc, if_true, if_false, Bool.false_eq_true, Bool.true_eq_false])
section
variable {P : Program} {w : World} {K : PySem.W.Frag} {mg : Str → Option Value} {base : Heap} {f g : Addr} {fd gd : FuncData} {Ra Aa Ba Ca : Addr}
mutual
def D.sz : D → Nat
  | .s _ => 1
  | .n ds => D.szL ds + 2
def D.szL : List D → Nat
  | [] => 0
  | d :: ds => d.sz + D.szL ds
end
/-- the tasks of frozen(): a part, or the end of a row -/
inductive Tk where
  | e (d : D)
  | i
def Tk.sz : Tk → Nat
  | .e d => d.sz
  | .i => 1
def tksz : List Tk → Nat
  | [] => 0
  | t :: r => t.sz + tksz r
def exec : List Tk → List (List D) → List (List D)
  | [], rs => rs
  | .e d :: ts, r :: rs => exec ts ((r ++ [d]) :: rs)
  | .i :: ts, r :: r2 :: rs => exec ts ((r2 ++ [.n r]) :: rs)
  | _ :: _, _ => []
theorem exec_parts (ts : List Tk) (rs : List (List D)) : ∀ (ds : List D) (r : List D), exec (ds.map Tk.e ++ ts) (r :: rs) = exec ts ((r ++ ds) :: rs)
  | [], r => by simp
  | d :: ds, r => by
    show exec (ds.map Tk.e ++ ts) ((r ++ [d]) :: rs) = _
    rw [exec_parts ts rs ds, List.append_assoc]
    rfl
theorem tksz_append : ∀ (a b : List Tk), tksz (a ++ b) = tksz a + tksz b
  | [], b => by simp [tksz]
  | t :: r, b => by
    show t.sz + tksz (r ++ b) = t.sz + tksz r + tksz b
    rw [tksz_append r b]
    omega
theorem tksz_parts : ∀ (ds : List D), tksz (ds.map Tk.e) = D.szL ds
  | [] => rfl
  | d :: ds => by
    show d.sz + tksz (ds.map Tk.e) = D.szL (d :: ds)
    rw [tksz_parts ds]
    simp only [D.szL]
theorem dsz_pos (d : D) : 1 ≤ d.sz := by cases d <;> unfold D.sz <;> omega
theorem tksz_len : ∀ (l : List Tk), l.length ≤ tksz l
  | [] => Nat.zero_le _
  | t :: r => by
    have := tksz_len r
    have : 1 ≤ t.sz := by cases t with | e d => exact dsz_pos d | i => exact Nat.le_refl _
    rw [List.length_cons]
    show _ ≤ t.sz + tksz r
    omega
def TkR (H0 H : Hp) (v : V) (t : Tk) : Prop := ∃ a, v = .ref a ∧ match t with
  | .e d => ∃ x, H a = some (.tup [x, .bl false]) ∧ Rep false H0 x d
  | .i => H a = some (.tup [.non, .bl true])
def TkL (H0 H : Hp) : List V → List Tk → Prop
  | [], [] => True
  | v :: vs, t :: ts => TkR H0 H v t ∧ TkL H0 H vs ts
  | _, _ => False
def RwL (H : Hp) : List Addr → List (List D) → Prop
  | [], [] => True
  | a :: as, r :: rs => (∃ vs, H a = some (.lst vs) ∧ RepL true H vs r) ∧ RwL H as rs
  | _, _ => False
/-- tuples stay -/
def Tp (H H' : Hp) : Prop := ∀ a vs, H a = some (.tup vs) → H' a = some (.tup vs)
theorem Tp.refl {H : Hp} : Tp H H := fun _ _ e => e
theorem Tp.trans {H H1 H2 : Hp} (a : Tp H H1) (b : Tp H1 H2) : Tp H H2 := fun x vs e => b _ _ (a _ _ e)
theorem Tp.upd {H : Hp} {p : Addr} {o : HO} (h : ∀ vs, H p ≠ some (.tup vs)) : Tp H (upd H p o) := fun a vs e => (upd_ne (fun z => by rw [z] at e; exact h _ e)).trans e
theorem Tp.lst {H : Hp} {p : Addr} {o : HO} {xs : List V} (h : H p = some (.lst xs)) : Tp H (L2.upd H p o) := Tp.upd fun vs e => by rw [h] at e; cases e
theorem Tp.new {H : Hp} {p : Addr} {o : HO} (h : H p = none) : Tp H (L2.upd H p o) := Tp.upd fun vs e => by rw [h] at e; cases e
theorem RepL.tp {H H' : Hp} {vs : List V} {ds : List D} (h : RepL true H vs ds) (t : Tp H H') : RepL true H' vs ds := RepL.keep (fun a xs e => t _ _ e) (fun z => by cases z) ds vs h
theorem Rep.tp {H H' : Hp} {v : V} {d : D} (h : Rep true H v d) (t : Tp H H') : Rep true H' v d := Rep.keep (fun a xs e => t _ _ e) (fun z => by cases z) d v h
theorem TkR.tp {H0 H H' : Hp} {v : V} {t : Tk} (h : TkR H0 H v t) (k : Tp H H') : TkR H0 H' v t := by
  obtain ⟨a, rfl, h⟩ := h
  refine ⟨a, rfl, ?_⟩
  cases t with
  | e d =>
    obtain ⟨x, h1, h2⟩ := h
    exact ⟨x, k _ _ h1, h2⟩
  | i => exact k _ _ h
theorem TkL.tp {H0 H H' : Hp} (k : Tp H H') : ∀ {vs : List V} {ts : List Tk}, TkL H0 H vs ts → TkL H0 H' vs ts
  | [], [], _ => trivial
  | v :: vs, t :: ts, h => ⟨h.1.tp k, TkL.tp k h.2⟩
  | [], _ :: _, h => h.elim
  | _ :: _, [], h => h.elim
theorem TkL.app {H0 H : Hp} : ∀ {vs ws : List V} {ts us : List Tk}, TkL H0 H vs ts → TkL H0 H ws us → TkL H0 H (vs ++ ws) (ts ++ us)
  | [], _, [], _, _, k => k
  | v :: vs, _, t :: ts, _, h, k => ⟨h.1, TkL.app h.2 k⟩
  | [], _, _ :: _, _, h, _ => h.elim
  | _ :: _, _, [], _, h, _ => h.elim
theorem TkL.len {H0 H : Hp} : ∀ {vs : List V} {ts : List Tk}, TkL H0 H vs ts → vs.length = ts.length
  | [], [], _ => rfl
  | v :: vs, t :: ts, h => by rw [List.length_cons, List.length_cons, TkL.len h.2]
  | [], _ :: _, h => h.elim
  | _ :: _, [], h => h.elim
theorem RwL.tp {H H' : Hp} (k : Tp H H') : ∀ {as : List Addr} {rs : List (List D)}, (∀ a ∈ as, H' a = H a) → RwL H as rs → RwL H' as rs
  | [], [], _, _ => trivial
  | a :: as, r :: rs, q, h => by
    obtain ⟨⟨vs, h1, h2⟩, h3⟩ := h
    exact ⟨⟨vs, (q a List.mem_cons_self).trans h1, h2.tp k⟩, RwL.tp k (fun b hb => q b (List.mem_cons_of_mem _ hb)) h3⟩
  | [], _ :: _, _, h => h.elim
  | _ :: _, [], _, h => h.elim
theorem RwL.len {H : Hp} : ∀ {as : List Addr} {rs : List (List D)}, RwL H as rs → as.length = rs.length
  | [], [], _ => rfl
  | a :: as, r :: rs, h => by rw [List.length_cons, List.length_cons, RwL.len h.2]
  | [], _ :: _, h => h.elim
  | _ :: _, [], h => h.elim
theorem RwL.ne_none {H : Hp} : ∀ {as : List Addr} {rs : List (List D)}, RwL H as rs → ∀ a ∈ as, H a ≠ none
  | [], [], _, a, ha => by cases ha
  | b :: as, r :: rs, h, a, ha => by
    obtain ⟨⟨vs, h1, h2⟩, h3⟩ := h
    rcases List.mem_cons.mp ha with rfl | ha
    · rw [h1]; simp
    · exact RwL.ne_none h3 a ha
  | [], _ :: _, h, _, _ => h.elim
  | _ :: _, [], h, _, _ => h.elim
def rowsz (rs : List (List D)) : Nat := (rs.map List.length).sum
structure Fz (H H' : Hp) (R T : Addr) (d0 : D) (vs : List V) (ts : List Tk) (as : List Addr) (rs : List (List D)) : Prop where
  hT : H' T = some (.lst vs.reverse)
  hR : H' R = some (.lst (as.reverse.map V.ref))
  tk : TkL H H' vs ts
  rw_ : RwL H' as rs
  nd : as.Nodup
  nR : R ∉ as
  nT : T ∉ as
  nRT : R ≠ T
  fR : H R = none
  fT : H T = none
  fa : ∀ a ∈ as, H a = none
  ex : exec ts rs = [[d0]]
  ne : rs ≠ []
  size : tksz ts + rowsz rs ≤ 10000100
  rl : rs.length + tksz ts ≤ 10000100
  ev : Ev [] H H'
theorem atLast {α : Type} (xs : List α) (y : α) : atI (xs ++ [y]) (-1) = some y := by
  unfold atI ixN
  rw [if_neg (by omega), if_pos (by rw [List.length_append, List.length_singleton]; omega)]
  have : (-1 + ((xs ++ [y]).length : Int)).toNat = xs.length := by rw [List.length_append, List.length_singleton]; omega
  rw [this]
  show (xs ++ [y])[xs.length]? = some y
  rw [List.getElem?_append_right (Nat.le_refl _), Nat.sub_self]
  rfl
theorem isiT_seq {H : Hp} {a p : Addr} {xs : List V} {Q : VK} (h : Sq H a xs) (hp : H p = some (.tup [.ty "list", .ty "tuple"])) (q : Q (.bl true) H) : rIsiT K [.ref a, .ref p] H Q := by
  rcases h with h | h
  · exact ⟨_, _, _, _, _, true, rfl, hp, .cons (.ty _) (.cons (.ty _) .nil), .base (.tup h), kitAny_cons (b := false) (kit_ty rfl) (fun _ => kitAny_cons (b := true) (kit_ty rfl) (fun z => by cases z) (fun _ => rfl)) (fun z => by cases z), q⟩
  · exact ⟨_, _, _, _, _, true, rfl, hp, .cons (.ty _) (.cons (.ty _) .nil), .base (.lst h), kitAny_cons (b := true) (kit_ty rfl) (fun z => by cases z) (fun _ => rfl), q⟩
theorem isiT_str {H : Hp} {p : Addr} {z : Str} {Q : VK} (hp : H p = some (.tup [.ty "list", .ty "tuple"])) (q : Q (.bl false) H) : rIsiT K [.str z, .ref p] H Q :=
  ⟨_, _, _, _, _, false, rfl, hp, .cons (.ty _) (.cons (.ty _) .nil), .base (.str z), kitAny_cons (b := false) (kit_ty rfl) (fun _ => kitAny_cons (b := false) (kit_ty rfl) (fun _ => kitAny_nil) (fun z => by cases z)) (fun z => by cases z), q⟩
/-- one more at the end of the top row -/
theorem RwL.push {H : Hp} {a : Addr} {as : List Addr} {r : List D} {rs : List (List D)} {vs : List V} {v : V} {d : D} (h : RwL H (a :: as) (r :: rs)) (nd : (a :: as).Nodup) (ha : H a = some (.lst vs)) (hd : Rep true H v d) : RwL (upd H a (HO.lst (vs ++ [v]))) (a :: as) ((r ++ [d]) :: rs) := by
  obtain ⟨⟨us, h1, h2⟩, h3⟩ := h
  rw [h1] at ha
  cases ha
  have t : Tp H (upd H a (.lst (vs ++ [v]))) := Tp.lst h1
  exact ⟨⟨_, upd_same, (h2.append (.one hd)).tp t⟩, h3.tp t fun b hb => upd_ne fun z => (List.nodup_cons.mp nd).1 (z ▸ hb)⟩
theorem RepL.strs {m : Bool} {H H' : Hp} : ∀ {ds : List D} {vs : List V}, RepL m H vs ds → (∀ x ∈ vs, ∃ z, x = V.str z) → RepL true H' vs ds
  | [], _, h, _ => RepL.nilIff.mpr (RepL.nilIff.mp h)
  | d :: ds, vs, h, k => by
    obtain ⟨v, r, rfl, h1, h2⟩ := RepL.consIff.mp h
    refine RepL.cons ?_ (RepL.strs h2 fun x hx => k x (List.mem_cons_of_mem _ hx))
    obtain ⟨z, rfl⟩ := k v List.mem_cons_self
    cases d with
    | s y => exact Rep.strIff.mpr (Rep.strIff.mp h1)
    | n es =>
      obtain ⟨a, _, e, _⟩ := Rep.seqIff.mp h1
      cases e
def spFz : Sp := fun vs H Q _ => ∃ (v : V) (d : D), vs = [v] ∧ Rep false H v d ∧ d.fit ∧ d.sz ≤ 10000050 ∧ ∀ (v' : V) (H' : Hp), Ev [] H H' → Rep true H' v' d → Q v' H'
theorem ok_frozen (F : Fun K "frozen" "frozen" s_frozen f fd) (T : Gw mg Ra Aa Ba Ca) : FnOk P w K mg base CX0 1 f fd ["value"] spFz := by
  refine F.ok sc_frozen (fun vs H Q E h => ?_) (fun cdv A outer s H vs Q E hr h => ?_)
  · obtain ⟨v, d, rfl, _⟩ := h
    rfl
  obtain ⟨v, d, rfl, hv, hf, hz, q⟩ := h
  refine ⟨_, (pss_cons (ps_if (PW.pt (pw_and (pt_val (pe_callB (r := rIsi K) (id := "isinstance") call_isi (by rfl) T.b_isinstance (by decide +kernel) (pa_cons (pv 0) (pa_cons (pe_bltn (v := .ty "tuple") (by rfl) T.b_tuple (by decide +kernel) rfl) pa_nil)))) (pw_and1 (pt_not (pt_val (pe_callB (cr_any rfl) (by rfl) T.b_any (by decide +kernel) (pa_cons (pe_lc (own := [("part", 1)]) (g := gName 1) (by rfl) sc_frozen.nd (pi_seq (pv 0)) (blkOk_by (N := ["value", "part", "rows", "tasks", "item", "is_row_end", "row"]) (sc := defScope s_frozen) (by decide +kernel)) (fun _ _ _ _ _ => pg_name (i := 1) sc_frozen.nd rfl (by first | exact Or.inl rfl | exact Or.inr rfl)) (fun _ _ _ _ _ => pts_nil) (fun _ _ _ _ _ => (pe_callB (r := rIsiT K) (id := "isinstance") call_isiT (by rfl) T.b_isinstance (by decide +kernel) (pa_cons (pv 1) (pa_cons (pe_tup (pa_cons (pe_bltn (v := .ty "list") (by rfl) T.b_list (by decide +kernel) rfl) (pa_cons (pe_bltn (v := .ty "tuple") (by rfl) T.b_tuple (by decide +kernel) rfl) pa_nil))) pa_nil))))) pa_nil))))))) (pss_one (ps_ret (pv 0))) pss_nil)
        (pss_cons (ps_set (i := 2) sc_frozen.nd rfl (by first | exact Or.inl rfl | exact Or.inr rfl) (pe_lst (pa_cons (pe_lst pa_nil) pa_nil)))
        (pss_cons (ps_set (i := 3) sc_frozen.nd rfl (by first | exact Or.inl rfl | exact Or.inr rfl) (pe_lst (pa_cons (pe_tup (pa_cons (pv 0) (pa_cons pe_bl pa_nil))) pa_nil)))
        (pss_cons (ps_while PassesOwn.never (pt_truth (pv 3) (by intro _; rfl)) (pss_cons (ps_asg (pe_bm0 PySem.F.plainAttrs_list PySem.F.slot_list_pop PySem.F.type_list_pop mt_pop (pv 3)) (pg_tup (n := 2) (by rfl) (pgs_cons (pg_name (i := 4) sc_frozen.nd rfl (by first | exact Or.inl rfl | exact Or.inr rfl)) (pgs_cons (pg_name (i := 5) sc_frozen.nd rfl (by first | exact Or.inl rfl | exact Or.inr rfl)) pgs_nil))))
          (pss_one (ps_if (pt_val (pv 5)) (pss_cons (ps_set (i := 6) sc_frozen.nd rfl (by first | exact Or.inl rfl | exact Or.inr rfl) (pe_bm0 PySem.F.plainAttrs_list PySem.F.slot_list_pop PySem.F.type_list_pop mt_pop (pv 2)))
            (pss_one (ps_expr (pe_bm PySem.F.plainAttrs_list PySem.F.slot_list_append PySem.F.type_list_append mt_append (pe_ix (r := rIxL K) ix_list (pv 2) (pe_un un_neg pe_int) (fun _ _ => rfl)) (pa_cons (pe_callTy call_tuple_of (by rfl) T.b_tuple (by decide +kernel) (pa_cons (pv 6) pa_nil)) pa_nil))))) (pss_one (ps_if (pt_val (pe_callB (r := rIsiT K) (id := "isinstance") call_isiT (by rfl) T.b_isinstance (by decide +kernel) (pa_cons (pv 4) (pa_cons (pe_tup (pa_cons (pe_bltn (v := .ty "list") (by rfl) T.b_list (by decide +kernel) rfl) (pa_cons (pe_bltn (v := .ty "tuple") (by rfl) T.b_tuple (by decide +kernel) rfl) pa_nil))) pa_nil)))) (pss_cons (ps_expr (pe_bm PySem.F.plainAttrs_list PySem.F.slot_list_append PySem.F.type_list_append mt_append (pv 2) (pa_cons (pe_lst pa_nil) pa_nil)))
              (pss_cons (ps_expr (pe_bm PySem.F.plainAttrs_list PySem.F.slot_list_append PySem.F.type_list_append mt_append (pv 3) (pa_cons (pe_tup (pa_cons pe_non (pa_cons pe_bl pa_nil))) pa_nil)))
              (pss_one (ps_expr (pe_bm PySem.F.plainAttrs_list PySem.F.slot_list_extend PySem.F.type_list_extend mt_extend (pv 3) (pa_cons (pe_lc (own := [("part", 1)]) (g := gName 1) (by rfl) sc_frozen.nd (pi_seq (pe_rev rv_seq (pv 4))) (blkOk_by (N := ["value", "part", "rows", "tasks", "item", "is_row_end", "row"]) (sc := defScope s_frozen) (by decide +kernel)) (fun _ _ _ _ _ => pg_name (i := 1) sc_frozen.nd rfl (by first | exact Or.inl rfl | exact Or.inr rfl)) (fun _ _ _ _ _ => pts_nil) (fun _ _ _ _ _ => (pe_tup (pa_cons (pv 1) (pa_cons pe_bl pa_nil))))) pa_nil)))))) (pss_one (ps_expr (pe_bm PySem.F.plainAttrs_list PySem.F.slot_list_append PySem.F.type_list_append mt_append (pe_ix (r := rIxL K) ix_list (pv 2) (pe_un un_neg pe_int) (fun _ _ => rfl)) (pa_cons (pv 4) pa_nil))))))))))
        (pss_one (ps_ret (pe_ix (r := rIxL K) ix_list (pe_ix (r := rIxL K) ix_list (pv 2) pe_int (fun _ _ => rfl)) pe_int (fun _ _ => rfl)))))))), ?_⟩
  refine cut (fun σ H2 => σ = [some v, none, none, none, none, none, none] ∧ Ev [] H H2) (fun N hN => ?_) ?_
  · walk_at "rd"
    cases d with
    | s z =>
      cases Rep.strIff.mp hv
      refine ⟨_, _, _, _, false, rfl, .ty _, .base (.str z), kit_ty rfl, false, rfl, ?_⟩
      rw [if_neg (by decide)]
      exact hN _ _ ⟨rfl, Ev.refl _⟩
    | n ds =>
      obtain ⟨a, xs, rfl, hsq, hL⟩ := hv.sq
      rcases hsq with ht | hl
      · refine ⟨_, _, _, _, true, rfl, .ty _, .base (.tup ht), kit_ty rfl, true, rfl, ?_⟩
        rw [if_pos rfl]
        refine lcSeq (a := a) (xs := xs) (fun D i H' => ∃ bs : List Bool, H' D = some (.lst (bs.map V.bl)) ∧ bs.length = i ∧ (bs.any id = false → ∀ x ∈ xs.take i, ∃ z, x = .str z) ∧ Ev [] H H') (fun R h => ⟨_, rfl, h⟩) (.inl ht) (fun D hD => ⟨[], upd_same, rfl, (fun _ x hx => by simp at hx), Ev.new hD _⟩) (fun D i H' hD ⟨_, _, _, _, e⟩ => by rw [ht]; exact e.out ht (by simp)) (fun D i x H' hD hx ⟨bs, hb, hn, hs, e⟩ => ?_) (fun D H' hD ⟨bs, hb, hn, hs, e⟩ => ?_)
        · walk_at "rd"
          obtain ⟨di, hdi, hr⟩ := hL.get' hx
          have hlen : bs.length < sizeLine := by
            rw [hn, szl]
            have h1 : i < xs.length := (List.getElem?_eq_some_iff.mp hx).1
            rw [hL.len] at h1
            have := hf
            have h2 := (TW.D.fit_n this).1
            rw [szl] at h2
            omega
          have htk : xs.take (i + 1) = xs.take i ++ [x] := by rw [List.take_succ, hx]; rfl
          refine ⟨by decide, fun p hp => ?_⟩
          have hb2 := (upd_ne (o := .tup [.ty "list", .ty "tuple"]) (ne_of_none hb hp)).trans hb
          have e2 := e.trans (Ev.new hp (.tup [.ty "list", .ty "tuple"]))
          cases di with
          | s z =>
            cases Rep.strIff.mp hr
            refine isiT_str upd_same ⟨_, hb2, by rw [List.length_map]; exact hlen, bs ++ [false], ?_, by simp [hn], fun hf x hx => ?_, e2.over hD⟩
            · rw [upd_same, List.map_append]
              rfl
            · rw [htk] at hx
              rcases List.mem_append.mp hx with hx | hx
              · exact hs (by simpa using hf) x hx
              · exact ⟨z, List.mem_singleton.mp hx⟩
          | n es =>
            obtain ⟨b, ys, rfl, hsb, hLb⟩ := hr.sq
            refine isiT_seq (hsb.evR hLb e2) upd_same ⟨_, hb2, by rw [List.length_map]; exact hlen, bs ++ [true], ?_, by simp [hn], fun hf x hx => ?_, e2.over hD⟩
            · rw [upd_same, List.map_append]
              rfl
            · simp at hf
        · refine ⟨D, rfl, bs, SqL.of hb, ?_⟩
          cases hany : bs.any id with
          | true =>
            rw [if_neg (by simp)]
            exact hN _ _ ⟨rfl, e⟩
          | false =>
            rw [if_pos (by simp)]
            refine q _ H' e (Rep.seqIff.mpr ⟨a, xs, rfl, .inl (e.out ht (by simp)), RepL.strs hL fun x hx => hs hany x ?_⟩)
            rw [List.take_length]
            exact hx
      · refine ⟨_, _, _, _, false, rfl, .ty _, .base (.lst hl), kit_ty rfl, false, rfl, ?_⟩
        rw [if_neg (by decide)]
        exact hN _ _ ⟨rfl, Ev.refl _⟩
  rintro σ H ⟨rfl, ev0⟩
  have hv := hv.ev ev0
  have q : ∀ (v' : V) (H' : Hp), Ev [] H H' → Rep true H' v' d → Q v' H' := fun v' H' e r => q v' H' (ev0.trans e) r
  walk_at "rd"
  refine ⟨by decide, fun p0 hp0 => ⟨by decide, fun R hR => ⟨by decide, fun t0 ht0 => ⟨by decide, fun Tt hT => ?_⟩⟩⟩⟩
  refine whileL (fun m σ H' => ∃ (vs : List V) (ts : List Tk) (as : List Addr) (rs : List (List D)) (c1 c2 c3 : Option V), σ = [some v, none, some (.ref R), some (.ref Tt), c1, c2, c3] ∧ m = tksz ts ∧ Fz H H' R Tt d vs ts as rs ∧ (∀ x ∈ ts, ∀ e, x = .e e → e.fit)) ?_ ?_
  · have e1 := Ev.new (l := []) hp0 (.lst [])
    have e2 := e1.trans (Ev.new hR (.lst [.ref p0]))
    have e3 := e2.trans (Ev.new ht0 (.tup [v, .bl false]))
    have e4 := e3.trans (Ev.new hT (.lst [.ref t0]))
    have nRp : p0 ≠ R := ne_of_none upd_same hR
    have nTt : t0 ≠ Tt := ne_of_none upd_same hT
    have hR3 : (upd (upd (upd H p0 (.lst [])) R (.lst [.ref p0])) t0 (.tup [v, .bl false])) R = some (.lst [.ref p0]) := (upd_ne (ne_of_none upd_same ht0)).trans upd_same
    have nRT : R ≠ Tt := ne_of_none hR3 hT
    have hp3 : (upd (upd (upd H p0 (.lst [])) R (.lst [.ref p0])) t0 (.tup [v, .bl false])) p0 = some (.lst []) := (upd_ne (ne_of_none ((upd_ne nRp).trans upd_same) ht0)).trans ((upd_ne nRp).trans upd_same)
    have npT : p0 ≠ Tt := ne_of_none hp3 hT
    refine ⟨_, [.ref t0], [.e d], [p0], [[]], none, none, none, rfl, rfl, ⟨upd_same, (upd_ne nRT).trans hR3, ⟨⟨t0, rfl, v, (upd_ne nTt).trans upd_same, hv⟩, trivial⟩, ⟨⟨[], (upd_ne npT).trans hp3, RepL.nil⟩, trivial⟩, by simp, by simpa using nRp.symm, by simpa using npT.symm, nRT, e1.free hR, e3.free hT, by simpa using hp0, by simp [exec], by simp, ?_, ?_, e4⟩, ?_⟩
    · show d.sz + 0 + 0 ≤ _
      omega
    · show 1 + (d.sz + 0) ≤ _
      omega
    · intro x hx e he
      rw [List.mem_singleton.mp hx] at he
      cases he
      exact hf
  rintro m σ H' ⟨vs, ts, as, rs, c1, c2, c3, rfl, rfl, Z, hfit⟩
  refine ⟨Tt, vs.reverse, rfl, Z.hT, ?_, fun hnil => ?_⟩
  · intro ys y hyy
    have hvs : vs = y :: ys.reverse := by
      have := congrArg List.reverse hyy
      simpa using this
    subst hvs
    obtain ⟨hT', hR', tk, rw_, nd, nR, nT, nRT, fR, fT, fa, ex, ne, size, rl, ev⟩ := Z
    cases ts with
    | nil => exact tk.elim
    | cons t ts =>
    have hTy : H' Tt = some (.lst (ys ++ [y])) := by rw [hT']; simp
    have tp1 : Tp H' (upd H' Tt (.lst ys)) := Tp.lst hTy
    have ev1 : Ev [] H (upd H' Tt (.lst ys)) := ev.over fT
    have hR1 : (upd H' Tt (.lst ys)) R = some (.lst (as.reverse.map V.ref)) := (upd_ne nRT).trans hR'
    have rw1 := rw_.tp tp1 fun a ha => upd_ne fun z => nT (z ▸ ha)
    obtain ⟨tk0, tk1⟩ := tk
    have tk1' := TkL.tp tp1 tk1
    have hT1 : (upd H' Tt (.lst ys)) Tt = some (.lst ys) := upd_same
    obtain ⟨ty, rfl, htk⟩ := tk0
    refine cut (fun σ H2 => H2 = upd H' Tt (.lst ys) ∧ ∃ (x : V) (b : Bool), σ = [some v, none, some (.ref R), some (.ref Tt), some x, some (.bl b), c3] ∧ match t with
      | .e d => b = false ∧ Rep false H x d
      | .i => b = true) (fun N hN => ?_) ?_
    · walk_at "rd"
      refine ⟨.inl ⟨_, SqL.of hTy⟩, _, hTy, _, last_of ys _, ty, rfl, ?_⟩
      rw [List.dropLast_concat]
      cases t with
      | e d1 =>
        obtain ⟨x, h1, h2⟩ := htk
        exact ⟨_, SqT.of (tp1 _ _ h1), rfl, _, _, rfl, _, _, rfl, rfl, hN _ _ ⟨rfl, x, false, rfl, rfl, h2⟩⟩
      | i => exact ⟨_, SqT.of (tp1 _ _ htk), rfl, _, _, rfl, _, _, rfl, rfl, hN _ _ ⟨rfl, _, true, rfl, rfl⟩⟩
    rintro σ H2 ⟨hH2, x, b, rfl, hb⟩
    rw [← hH2] at tp1 ev1 hR1 rw1 tk1' hT1
    clear hH2
    cases t with
    | i =>
      have hb : b = true := hb
      subst hb
      cases rs with
      | nil => exact absurd rfl ne
      | cons r rs =>
      cases rs with
      | nil => unfold exec at ex; cases ex
      | cons r2 rs =>
      cases as with
      | nil => exact rw1.elim
      | cons a1 as =>
      cases as with
      | nil => exact rw1.2.elim
      | cons a2 as =>
      obtain ⟨⟨v1, h1, h2⟩, h3⟩ := rw1
      have hRx : H2 R = some (.lst (((a2 :: as).reverse.map V.ref) ++ [.ref a1])) := by rw [hR1]; simp
      have hRy : H2 R = some (.lst ((as.reverse.map V.ref ++ [.ref a2]) ++ [.ref a1])) := by rw [hR1]; simp
      walk_at "rd"
      refine ⟨.inl ⟨_, SqL.of hRy⟩, _, hRy, _, last_of _ _, ?_⟩
      rw [List.dropLast_concat]
      obtain ⟨⟨v2, h4, h5⟩, h6⟩ := h3
      have na1 : a1 ≠ R := fun z => nR (by rw [z]; exact List.mem_cons_self)
      have na2 : a2 ≠ R := fun z => nR (by rw [z]; exact List.mem_cons_of_mem _ List.mem_cons_self)
      have nT2 : a2 ≠ Tt := fun z => nT (by rw [z]; exact List.mem_cons_of_mem _ List.mem_cons_self)
      have nR' : R ∉ a2 :: as := fun z => nR (List.mem_cons_of_mem _ z)
      have nT' : Tt ∉ a2 :: as := fun z => nT (List.mem_cons_of_mem _ z)
      have nd' : (a2 :: as).Nodup := (List.nodup_cons.mp nd).2
      have t3 : Tp H2 (upd H2 R (.lst (as.reverse.map V.ref ++ [.ref a2]))) := Tp.lst hRy
      have h13 : (upd H2 R (.lst (as.reverse.map V.ref ++ [.ref a2]))) a1 = some (.lst v1) := (upd_ne na1).trans h1
      have h43 : (upd H2 R (.lst (as.reverse.map V.ref ++ [.ref a2]))) a2 = some (.lst v2) := (upd_ne na2).trans h4
      have hT3 : (upd H2 R (.lst (as.reverse.map V.ref ++ [.ref a2]))) Tt = some (.lst ys) := (upd_ne nRT.symm).trans hT1
      have ev3 : Ev [] H (upd H2 R (.lst (as.reverse.map V.ref ++ [.ref a2]))) := ev1.over fR
      have rw3 : RwL (upd H2 R (.lst (as.reverse.map V.ref ++ [.ref a2]))) (a2 :: as) (r2 :: rs) := RwL.tp t3 (fun b hb => upd_ne fun z => nR' (z ▸ hb)) ⟨⟨v2, h4, h5⟩, h6⟩
      have hszr : rowsz (r :: r2 :: rs) = r.length + (r2.length + rowsz rs) := by simp [rowsz]
      have hszt : tksz (.i :: ts) = 1 + tksz ts := rfl
      rw [hszr, hszt] at size
      refine ⟨_, SqL.of upd_same, .ref a2, atLast _ _, .inl ⟨v2, SqL.of h43⟩, a1, rfl, v1, .inl ⟨SqL.of h13, fun l hl => ?_⟩⟩
      have t4 : Tp (upd H2 R (.lst (as.reverse.map V.ref ++ [.ref a2]))) (upd (upd H2 R (.lst (as.reverse.map V.ref ++ [.ref a2]))) l (.tup v1)) := Tp.new hl
      have h44 := (upd_ne (o := .tup v1) (ne_of_none h43 hl)).trans h43
      have rw4 := RwL.tp t4 (fun b hb => upd_ne fun z => RwL.ne_none rw3 b hb (z ▸ hl)) rw3
      refine ⟨a2, rfl, v2, h44, ?_, tksz ts, by rw [hszt]; omega, ys.reverse, ts, rfl, a2 :: as, (r2 ++ [.n r]) :: rs, ⟨?_, ?_, TkL.tp ((t3.trans t4).trans (Tp.lst h44)) tk1', RwL.push rw4 nd' h44 ?_, nd', nR', nT', nRT, fR, fT, fun b hb => fa b (List.mem_cons_of_mem _ hb), by simpa only [exec] using ex, by simp, ?_, ?_, (ev3.trans (Ev.new hl _)).over (fa a2 (List.mem_cons_of_mem _ List.mem_cons_self))⟩, fun x hx => hfit x (List.mem_cons_of_mem _ hx)⟩
      · rw [h5.len, szl]
        omega
      · rw [List.reverse_reverse]
        exact (upd_ne nT2.symm).trans ((upd_ne (ne_of_none hT3 hl)).trans hT3)
      · refine (upd_ne na2.symm).trans ((upd_ne (ne_of_none upd_same hl)).trans (upd_same.trans ?_))
        simp
      · exact Rep.seqIff.mpr ⟨l, v1, rfl, .inl upd_same, (h2.tp t3).tp t4⟩
      · have : rowsz ((r2 ++ [.n r]) :: rs) = r2.length + 1 + rowsz rs := by simp [rowsz]
        rw [this]
        omega
      · simp only [List.length_cons] at rl ⊢
        omega
    | e d1 =>
      obtain ⟨hb, hx⟩ := hb
      subst hb
      cases d1 with
      | s z =>
        cases Rep.strIff.mp hx
        walk_at "rd"
        refine ⟨by decide, fun p hp => isiT_str upd_same ⟨false, rfl, ?_⟩⟩
        rw [if_neg (by decide)]
        cases rs with
        | nil => exact absurd rfl ne
        | cons r rs =>
        cases as with
        | nil => exact rw1.elim
        | cons a1 as =>
        have tp2 : Tp H2 (upd H2 p (.tup [.ty "list", .ty "tuple"])) := Tp.new hp
        have rw2 := RwL.tp tp2 (fun b hb => upd_ne fun z => RwL.ne_none rw1 b hb (z ▸ hp)) rw1
        obtain ⟨⟨v1, h1, h2⟩, h3⟩ := rw2
        have nT1 : a1 ≠ Tt := fun z => nT (by rw [z]; exact List.mem_cons_self)
        have nR1 : a1 ≠ R := fun z => nR (by rw [z]; exact List.mem_cons_self)
        have hR2 : (upd H2 p (.tup [.ty "list", .ty "tuple"])) R = some (.lst (as.reverse.map V.ref ++ [.ref a1])) := (upd_ne (ne_of_none hR1 hp)).trans (by rw [hR1]; simp)
        have hT2 := (upd_ne (o := .tup [.ty "list", .ty "tuple"]) (ne_of_none hT1 hp)).trans hT1
        have hszr : rowsz (r :: rs) = r.length + rowsz rs := by simp [rowsz]
        have hszt : tksz (.e (.s z) :: ts) = 1 + tksz ts := by
          show D.sz (.s z) + tksz ts = _
          unfold D.sz
          rfl
        rw [hszr, hszt] at size
        refine ⟨_, SqL.of hR2, .ref a1, atLast _ _, .inl ⟨v1, SqL.of h1⟩, a1, rfl, v1, h1, ?_, tksz ts, by rw [hszt]; omega, ys.reverse, ts, rfl, a1 :: as, (r ++ [.s z]) :: rs, ⟨?_, ?_, TkL.tp (tp2.trans (Tp.lst h1)) tk1', RwL.push ⟨⟨v1, h1, h2⟩, h3⟩ nd h1 (Rep.strIff.mpr rfl), nd, nR, nT, nRT, fR, fT, fa, by simpa only [exec] using ex, by simp, ?_, ?_, (ev1.trans (Ev.new hp _)).over (fa a1 List.mem_cons_self)⟩, fun x hx => hfit x (List.mem_cons_of_mem _ hx)⟩
        · rw [h2.len, szl]
          omega
        · rw [List.reverse_reverse]
          exact (upd_ne nT1.symm).trans hT2
        · refine (upd_ne nR1.symm).trans (hR2.trans ?_)
          simp
        · have : rowsz ((r ++ [.s z]) :: rs) = r.length + 1 + rowsz rs := by simp [rowsz]
          rw [this]
          omega
        · simp only [List.length_cons] at rl ⊢
          omega
      | n ds =>
        obtain ⟨a, xs, rfl, hsq, hL⟩ := hx.sq
        walk_at "rd"
        refine ⟨by decide, fun p hp => ?_⟩
        have evp : Ev [] H2 (upd H2 p (.tup [.ty "list", .ty "tuple"])) := Ev.new hp _
        refine isiT_seq (hsq.evR hL (ev1.trans evp)) upd_same ⟨true, rfl, ?_⟩
        rw [if_pos rfl]
        have tp2 : Tp H2 (upd H2 p (.tup [.ty "list", .ty "tuple"])) := Tp.new hp
        have rw2 := RwL.tp tp2 (fun b hb => upd_ne fun z => RwL.ne_none rw1 b hb (z ▸ hp)) rw1
        have hR2 := (upd_ne (o := .tup [.ty "list", .ty "tuple"]) (ne_of_none hR1 hp)).trans hR1
        have hT2 := (upd_ne (o := .tup [.ty "list", .ty "tuple"]) (ne_of_none hT1 hp)).trans hT1
        have tk2 := TkL.tp tp2 tk1'
        have ev2 := ev1.trans evp
        generalize upd H2 p (.tup [.ty "list", .ty "tuple"]) = H3 at *
        refine ⟨.inl ⟨_, SqL.of hR2⟩, by decide, fun n hn => ?_⟩
        have hR3 := (upd_ne (o := .lst []) (ne_of_none hR2 hn)).trans hR2
        have hT3 := (upd_ne (o := .lst []) (ne_of_none hT2 hn)).trans hT2
        have tp3 : Tp H3 (upd H3 n (.lst [])) := Tp.new hn
        have rw3 := RwL.tp tp3 (fun b hb => upd_ne fun z => RwL.ne_none rw2 b hb (z ▸ hn)) rw2
        have tk3 := TkL.tp tp3 tk2
        have ev3 := ev2.trans (Ev.new hn (.lst []))
        have hn3 : (upd H3 n (.lst [])) n = some (.lst []) := upd_same
        have fn := ev2.free hn
        have nn : n ∉ as := fun z => RwL.ne_none rw2 n z hn
        have nRn : R ≠ n := ne_of_none hR2 hn
        have nTn : Tt ≠ n := ne_of_none hT2 hn
        generalize upd H3 n (.lst []) = H4 at *
        refine ⟨_, hR3, ?_, ?_⟩
        · rw [List.length_map, List.length_reverse, RwL.len rw_, szl]
          omega
        have hT4 := (upd_ne (o := .lst (as.reverse.map V.ref ++ [.ref n])) nRT.symm).trans hT3
        have tp4 : Tp H4 (upd H4 R (.lst (as.reverse.map V.ref ++ [.ref n]))) := Tp.lst hR3
        have rw4 := RwL.tp tp4 (fun b hb => upd_ne fun z => nR (z ▸ hb)) rw3
        have hn4 := (upd_ne (o := .lst (as.reverse.map V.ref ++ [.ref n])) nRn.symm).trans hn3
        have hR4 : (upd H4 R (.lst (as.reverse.map V.ref ++ [.ref n]))) R = some (.lst (as.reverse.map V.ref ++ [.ref n])) := upd_same
        have tk4 := TkL.tp tp4 tk3
        have ev4 : Ev [] H (upd H4 R (.lst (as.reverse.map V.ref ++ [.ref n]))) := ev3.over fR
        generalize upd H4 R (.lst (as.reverse.map V.ref ++ [.ref n])) = H5 at *
        refine ⟨.inl ⟨_, SqL.of hT4⟩, by decide, fun p5 hp5 => ?_⟩
        have tp5 : Tp H5 (upd H5 p5 (.tup [.non, .bl true])) := Tp.new hp5
        have hT5 := (upd_ne (o := .tup [.non, .bl true]) (ne_of_none hT4 hp5)).trans hT4
        have hR5 := (upd_ne (o := .tup [.non, .bl true]) (ne_of_none hR4 hp5)).trans hR4
        have hn5 := (upd_ne (o := .tup [.non, .bl true]) (ne_of_none hn4 hp5)).trans hn4
        have rw5 := RwL.tp tp5 (fun b hb => upd_ne fun z => RwL.ne_none rw4 b hb (z ▸ hp5)) rw4
        have tk5 := TkL.tp tp5 tk4
        have ev5 := ev4.trans (Ev.new hp5 (.tup [.non, .bl true]))
        have hi5 : (upd H5 p5 (.tup [.non, .bl true])) p5 = some (.tup [.non, .bl true]) := upd_same
        generalize upd H5 p5 (.tup [.non, .bl true]) = H6 at *
        have htl := TkL.len tk2
        have hys : ys.length = ts.length := by rw [← htl, List.length_reverse]
        have htsz := tksz_len ts
        have hszt : tksz (.e (.n ds) :: ts) = D.szL ds + 2 + tksz ts := by
          show D.sz (.n ds) + tksz ts = _
          unfold D.sz
          rfl
        rw [hszt] at size
        refine ⟨_, hT5, by rw [hys, szl]; omega, .inl ⟨_, SqL.of upd_same⟩, ?_⟩
        have tp6 : Tp H6 (upd H6 Tt (.lst (ys ++ [.ref p5]))) := Tp.lst hT5
        have hR6 := (upd_ne (o := .lst (ys ++ [.ref p5])) nRT).trans hR5
        have hn6 := (upd_ne (o := .lst (ys ++ [.ref p5])) nTn.symm).trans hn5
        have rw6 := RwL.tp tp6 (fun b hb => upd_ne fun z => nT (z ▸ hb)) rw5
        have tk6 := TkL.tp tp6 tk5
        have hi6 := tp6 _ _ hi5
        have hT6 : (upd H6 Tt (.lst (ys ++ [.ref p5]))) Tt = some (.lst (ys ++ [.ref p5])) := upd_same
        have ev6 : Ev [] H (upd H6 Tt (.lst (ys ++ [.ref p5]))) := ev5.over fT
        generalize upd H6 Tt (.lst (ys ++ [.ref p5])) = H7 at *
        have hfd := D.fit_n (hfit _ List.mem_cons_self _ rfl)
        have comp : ∀ (p8 : Addr) (o : HO), H7 p8 = none → (o = .tup xs.reverse ∨ o = .lst xs.reverse) → tLc (iSeq K (tC (V.ref p8))) (gName 1) tYes (tTup (tCons (tVar 1) (tCons (tC (V.bl false)) tNil))) [1] [some v, none, some (.ref R), some (.ref Tt), some (.ref a), some (.bl false), c3] (upd H7 p8 o) fun x H1 => ∃ x_1, x = V.ref x_1 ∧ ∃ x, H1 Tt = some (HO.lst x) ∧ ∃ x_2, H1 x_1 = some (HO.lst x_2) ∧ x.length + x_2.length ≤ sizeLine ∧
            ∃ m', m' < tksz (Tk.e (D.n ds) :: ts) ∧ ∃ vs ts, m' = tksz ts ∧ ∃ x_3 x_4, Fz H (upd H1 Tt (HO.lst (x ++ x_2))) R Tt d vs ts x_3 x_4 ∧ ∀ (x : Tk), x ∈ ts → ∀ (e : D), x = Tk.e e → e.fit := by
          intro p8 o hp8 ho
          have s8 : Same H7 (upd H7 p8 o) := same_new hp8 o
          have hsq8 : (upd H7 p8 o) p8 = some (.tup xs.reverse) ∨ (upd H7 p8 o) p8 = some (.lst xs.reverse) := by
            rw [upd_same]
            rcases ho with rfl | rfl
            · exact .inl rfl
            · exact .inr rfl
          refine lcSeq (a := p8) (xs := xs.reverse) (fun D i H' => ∃ ws, H' D = some (.lst ws) ∧ TkL H H' ws.reverse ((ds.reverse.take i).reverse.map Tk.e) ∧ ws.length = i ∧ Same (upd H7 p8 o) H') (fun R h => h) hsq8 (fun D hD => ⟨[], upd_same, trivial, rfl, same_new hD _⟩) (fun D i H' hD ⟨ws, _, _, _, sm⟩ => ?_) (fun D i x H' hD hx ⟨ws, hl, ht, hn, sm⟩ => ?_) (fun D H' hD ⟨ws, hl, ht, hn, sm⟩ => ?_)
          · rcases hsq8 with h | h <;> rw [h, sm _ _ h]
          · walk_at "rd"
            refine ⟨by decide, fun p9 hp9 => ⟨ws, (upd_ne (ne_of_none hl hp9)).trans hl, ?_, ws ++ [.ref p9], upd_same, ?_, by simp [hn], ?_⟩⟩
            · have : i < xs.reverse.length := by
                rcases Nat.lt_or_ge i xs.reverse.length with k | k
                · exact k
                · rw [List.getElem?_eq_none k] at hx
                  cases hx
              rw [List.length_reverse, hL.len] at this
              rw [hn]
              exact Nat.lt_trans this hfd.1
            · obtain ⟨di, hdi, hr⟩ := (RepL.rev hL).get' hx
              have hl9 := (upd_ne (o := .tup [x, .bl false]) (ne_of_none hl hp9)).trans hl
              have t9 : Tp H' (upd (upd H' p9 (.tup [x, .bl false])) D (.lst (ws ++ [.ref p9]))) := (Tp.new hp9).trans (Tp.lst hl9)
              rw [List.take_succ, hdi, List.reverse_append, List.reverse_append]
              exact ⟨⟨p9, rfl, x, (upd_ne (ne_of_none hl hp9).symm).trans upd_same, hr⟩, TkL.tp t9 ht⟩
            · exact fun b u e => (upd_ne (ne_of_none e hD)).trans ((same_new hp9 _) _ _ (sm _ _ e))
          · have hlx : xs.reverse.length = ds.reverse.length := by rw [List.length_reverse, List.length_reverse, hL.len]
            rw [hlx, List.take_length, List.reverse_reverse] at ht
            have sm7 : Same H7 H' := fun b u e => sm _ _ (s8 _ _ e)
            have hTf := sm7 _ _ hT6
            have hRf := sm7 _ _ hR6
            have hnf := sm7 _ _ hn6
            have hif := sm7 _ _ hi6
            have tp7 : Tp H7 H' := fun b u e => sm7 _ _ e
            have tpf : Tp H' (upd H' Tt (.lst (ys ++ [.ref p5] ++ ws))) := Tp.lst hTf
            have hkeep : ∀ b ∈ as, H' b = H7 b := fun b hb => by
              have := RwL.ne_none rw6 b hb
              cases e : H7 b with
              | none => exact absurd e this
              | some o => exact sm7 _ _ e
            have rwf := RwL.tp (tp7.trans tpf) (fun b hb => (upd_ne (fun z : b = Tt => nT (z ▸ hb))).trans (hkeep b hb)) rw6
            have hwl := TkL.len ht
            rw [List.length_reverse, List.length_map] at hwl
            cases rs with
            | nil => exact absurd rfl ne
            | cons r rs =>
            have hzz : tksz (ds.map Tk.e ++ .i :: ts) = TW.D.szL ds + (1 + tksz ts) := by
              rw [tksz_append, tksz_parts]
              rfl
            have hlz := tksz_len (ds.map Tk.e)
            rw [List.length_map, tksz_parts] at hlz
            refine ⟨D, rfl, _, hTf, ws, hl, ?_, tksz (ds.map Tk.e ++ .i :: ts), by rw [hzz, hszt]; omega, (ys ++ [V.ref p5] ++ ws).reverse, ds.map Tk.e ++ .i :: ts, rfl, n :: as, [] :: r :: rs, ⟨?_, ?_, ?_, ⟨⟨[], (upd_ne nTn.symm).trans hnf, RepL.nil⟩, rwf⟩, List.nodup_cons.mpr ⟨nn, nd⟩, ?_, ?_, nRT, fR, fT, ?_, ?_, by simp, ?_, ?_, (ev6.trans (Ev.of_same sm7)).over fT⟩, ?_⟩
            · rw [List.length_append, List.length_singleton, hys, hwl, szl]
              omega
            · rw [List.reverse_reverse, upd_same]
            · refine (upd_ne nRT).trans (hRf.trans ?_)
              simp
            · rw [List.reverse_append, List.reverse_append]
              refine TkL.app (TkL.tp tpf ht) ⟨⟨p5, rfl, tpf _ _ hif⟩, TkL.tp (tp7.trans tpf) tk6⟩
            · intro z
              rcases List.mem_cons.mp z with z | z
              · exact nRn z
              · exact nR z
            · intro z
              rcases List.mem_cons.mp z with z | z
              · exact nTn z
              · exact nT z
            · intro b hb
              rcases List.mem_cons.mp hb with rfl | hb
              · exact fn
              · exact fa b hb
            · rw [exec_parts]
              simpa only [exec, List.nil_append] using ex
            · rw [hzz]
              have : rowsz ([] :: r :: rs) = rowsz (r :: rs) := by simp [rowsz]
              rw [this]
              omega
            · rw [hzz]
              rw [hszt] at rl
              simp only [List.length_cons] at rl ⊢
              omega
            · intro x hx e he
              rcases List.mem_append.mp hx with hx | hx
              · obtain ⟨y, hy, rfl⟩ := List.mem_map.mp hx
                cases he
                exact TW.D.fit_mem hfd.2 hy
              · rcases List.mem_cons.mp hx with rfl | hx
                · cases he
                · exact hfit x (List.mem_cons_of_mem _ hx) e he
        rcases hsq.evR hL ev6 with h | h
        · exact ⟨_, rfl, .inr ⟨a, xs, rfl, SqT.of h, fun p8 hp8 => comp p8 _ hp8 (.inl rfl)⟩⟩
        · exact ⟨_, rfl, .inl ⟨a, xs, rfl, SqL.of h, fun p8 hp8 => comp p8 _ hp8 (.inr rfl)⟩⟩
  · walk_at "rd"
    have hv0 : vs = [] := by simpa using hnil
    subst hv0
    cases ts with
    | cons t ts => exact Z.tk.elim
    | nil =>
    have ex : rs = [[d]] := Z.ex
    subst ex
    have hw := Z.rw_
    cases as with
    | nil => exact hw.elim
    | cons a as =>
    cases as with
    | cons b as => exact hw.2.elim
    | nil =>
    obtain ⟨⟨us, h1, h2⟩, _⟩ := hw
    obtain ⟨x, r, rfl, h3, h4⟩ := RepL.consIff.mp h2
    exact ⟨_, SqL.of Z.hR, _, at0, a, rfl, _, SqL.of h1, x, at0, q x H' Z.ev h3⟩
end
end TW
/-! C4 -/
set_option Elab.async false
set_option linter.all false
set_option maxRecDepth 100000
set_option maxHeartbeats 4000000
namespace TW
open PySem L2 TL
local macro_rules | `(tactic| walk_at "rd") => `(tactic| simp only [tSeq, tAsg, tOp, tUn, tVar, tCB, tCons, tNil, tRet, tDrop, gName, gSub, gTup, gCons, gNil, rI, rI0, rU, rIxL, rIxT, rIxS, rSetL, tC, L2.start, cxOf, tIfS, tIf, tTest, tB, tAnd, tOr, tNot, tAndV, tOrV, tNotV, tChain, tTup, tLst, tCall, tNext, tNever,
  rEq, rNe, tBM, tBM0, rCat, rRep, rIn, tSl, rSlL, rSlT, rSlS, rAll, rAny, rSortedS, rAppend, rPop, rExtend, tyV, tFld, tM1, tJs, tRev, tKGet, rRvL, rRvT, rRvS, rExtendT, rLstS, rRepS, tNoPart, tPart, tYes, StX.tStar, wipe, tFmtS, rIxD, tOrT, tMake, tMakeK, tCallN,
  List.map, List.length, List.replicate, List.append, List.nil_append, List.cons_append, List.append_nil, List.set, Nat.zero_add, Nat.add_zero, Nat.reduceAdd, Nat.reduceSub, List.getElem?_cons_zero, List.getElem?_cons_succ, List.length_cons, List.length_nil, List.set_cons_zero, List.set_cons_succ, List.getElem?_nil, Option.some.injEq, V.ref.injEq, V.int.injEq, V.str.injEq, V.bl.injEq, List.cons.injEq, and_true, true_and, exists_eq_left, exists_eq_left', exists_eq', exists_eq, exists_and_left, exists_const, reduceCtorEq, false_or, or_false, true_or, or_true, false_and, and_false, and_assoc, if_true, if_false, Bool.false_eq_true, Bool.true_eq_false])
local macro_rules | `(tactic| walk_at "rdd") => `(tactic| simp only [tSeq, tAsg, tOp, tUn, tVar, tCB, tCons, tNil, tRet, tDrop, gName, gSub, gTup, gCons, gNil, rI, rI0, rU, rIxL, rIxT, rIxS, rSetL, tC, L2.start, cxOf, tIfS, tIf, tTest, tB, tAnd, tOr, tNot, tAndV, tOrV, tNotV, tChain, tTup, tLst, tCall, tNext, tNever,
  rEq, rNe, tBM, tBM0, rCat, rRep, rIn, tSl, rSlL, rSlT, rSlS, rAll, rAny, rSortedS, rAppend, rPop, rExtend, tyV, tFld, tM1, tJs, tRev, tKGet, rRvL, rRvT, rRvS, rExtendT, rLstS, rRepS, tNoPart, tPart, tYes, StX.tStar, wipe, tFmtS, rIxD, tOrT, tMake, tMakeK, tCallN, tFor, tWhile, tLc, iList, iTup, iSeq, iStr, iRng1, iRng2, iEnumS, iZipS,
  List.map, List.length, List.replicate, List.append, List.nil_append, List.cons_append, List.append_nil, List.set, Nat.zero_add, Nat.add_zero, Nat.reduceAdd, Nat.reduceSub, List.getElem?_cons_zero, List.getElem?_cons_succ, List.length_cons, List.length_nil, List.set_cons_zero, List.set_cons_succ, List.getElem?_nil, Option.some.injEq, V.ref.injEq, V.int.injEq, V.str.injEq, V.bl.injEq, List.cons.injEq, and_true, true_and, exists_eq_left, exists_eq_left', exists_eq', exists_eq, exists_and_left, exists_const, reduceCtorEq, false_or, or_false, true_or, or_true, false_and, and_false, and_assoc, if_true, if_false, Bool.false_eq_true, Bool.true_eq_false])
section
variable {P : Program} {w : World} {K : PySem.W.Frag} {mg : Str → Option Value} {base : Heap} {f g : Addr} {fd gd : FuncData} {Ra Aa Ba Ca : Addr}
def Stm.wd : Stm → Str
  | .loop _ _ _ => Str.ofString "for"
  | .mark _ _ => Str.ofString "mark"
  | .cond _ _ _ => Str.ofString "if"
  | .leaf w _ => w
def Stm.ar : Stm → List D
  | .loop x w b => [.s x, .s w, .n (encL b)]
  | .mark x b => [.s x, .n (encL b)]
  | .cond t a b => [t.enc, .n (encL a), .n (encL b)]
  | .leaf _ x => [.s x]
theorem senc_eq (t : Stm) : t.enc = .n (.s t.wd :: t.ar) := by cases t <;> simp only [Stm.enc, Stm.wd, Stm.ar]
def Stm.blks : Stm → List (List Stm)
  | .loop _ _ b => [b]
  | .mark _ b => [b]
  | .cond _ a b => [a, b]
  | .leaf _ _ => []
def bEnc (b : List Stm) : D := .n (encL b)
theorem sSz {K : PySem.W.Frag} {w : World} {d : Addr} (hZ : KSz K w d sSizes) {t : Stm} (h : t.sh) : ∃ tk, PySem.W.nsIn K d t.wd = some (some (.int ((t.ar.length + 1 : Nat) : Int) tk)) := by
  cases t with
  | loop x w b => exact hZ.2 "for" 4 (by simp [sSizes])
  | mark x b => exact hZ.2 "mark" 3 (by simp [sSizes])
  | cond t a b => exact hZ.2 "if" 4 (by simp [sSizes])
  | leaf w x =>
    unfold Stm.sh at h
    rcases h.1 with rfl | rfl | rfl | rfl
    · exact hZ.2 "set" 2 (by simp [sSizes])
    · exact hZ.2 "clear" 2 (by simp [sSizes])
    · exact hZ.2 "copy" 2 (by simp [sSizes])
    · exact hZ.2 "print" 2 (by simp [sSizes])
theorem n_mf : Str.ofString "mark" ≠ Str.ofString "for" := by decide +kernel
theorem n_if : Str.ofString "if" ≠ Str.ofString "for" := by decide +kernel
theorem n_im : Str.ofString "if" ≠ Str.ofString "mark" := by decide +kernel
theorem n_fi : Str.ofString "for" ≠ Str.ofString "if" := by decide +kernel
theorem n_mi : Str.ofString "mark" ≠ Str.ofString "if" := by decide +kernel
def spBlocks : Sp := fun vs H Q _ => ∃ (v : V) (s : Stm), vs = [v] ∧ Rep true H v s.enc ∧ s.sh ∧ ∀ (p : Addr) (us : List V) (H' : Hp), Ev [] H H' → H' p = some (.tup us) → RepL true H' us (s.blks.map bEnc) → Q (.ref p) H'
theorem ok_blocks (F : Fun K "blocks_within" "blocks_within" s_blocks_within f fd) (T : Gw mg Ra Aa Ba Ca) : FnOk P w K mg base CX0 1 f fd ["statement"] spBlocks := by
  refine F.ok sc_blocks_within (fun vs H Q E h => ?_) (fun cdv A outer s H vs Q E hr h => ?_)
  · obtain ⟨v, s, rfl, _⟩ := h
    rfl
  obtain ⟨v, s, rfl, hR, hs, q⟩ := h
  rw [senc_eq] at hR
  obtain ⟨a, us, rfl, ha, hL⟩ := repT hR
  refine ⟨_, (pss_cons (ps_if (pt_cmpR op_eq (pe_ix (r := rIxT K) ix_tup (pv 0) pe_int (fun _ _ => rfl)) pe_str (nomark _)) (pss_one (ps_ret (pe_tup (pa_cons (pe_ix (r := rIxT K) ix_tup (pv 0) pe_int (fun _ _ => rfl)) pa_nil)))) pss_nil)
        (pss_cons (ps_if (pt_cmpR op_eq (pe_ix (r := rIxT K) ix_tup (pv 0) pe_int (fun _ _ => rfl)) pe_str (nomark _)) (pss_one (ps_ret (pe_tup (pa_cons (pe_ix (r := rIxT K) ix_tup (pv 0) pe_int (fun _ _ => rfl)) pa_nil)))) pss_nil)
        (pss_cons (ps_if (pt_cmpR op_eq (pe_ix (r := rIxT K) ix_tup (pv 0) pe_int (fun _ _ => rfl)) pe_str (nomark _)) (pss_one (ps_ret (pe_tup (pa_cons (pe_ix (r := rIxT K) ix_tup (pv 0) pe_int (fun _ _ => rfl)) (pa_cons (pe_ix (r := rIxT K) ix_tup (pv 0) pe_int (fun _ _ => rfl)) pa_nil))))) pss_nil)
        (pss_one (ps_ret (pe_tup pa_nil)))))), ?_⟩
  walk_at "rd"
  cases s with
  | loop x w b =>
    obtain ⟨u1, r1, rfl, h1, hL⟩ := RepL.consIff.mp hL
    obtain ⟨u2, r2, rfl, h2, hL⟩ := RepL.consIff.mp hL
    obtain ⟨u3, r3, rfl, h3, hL⟩ := RepL.consIff.mp hL
    exact ⟨_, SqT.of ha, _, at0, eqT ⟨_, SqT.of ha, _, at3, by decide, fun p hp => q p _ _ (Ev.new hp _) upd_same (.one (h3.same (same_new hp _)))⟩⟩
  | mark x b =>
    obtain ⟨u1, r1, rfl, h1, hL⟩ := RepL.consIff.mp hL
    obtain ⟨u2, r2, rfl, h2, hL⟩ := RepL.consIff.mp hL
    exact ⟨_, SqT.of ha, _, at0, neT n_mf ⟨_, SqT.of ha, _, at0, eqT ⟨_, SqT.of ha, _, at2, by decide, fun p hp => q p _ _ (Ev.new hp _) upd_same (.one (h2.same (same_new hp _)))⟩⟩⟩
  | cond t b1 b2 =>
    obtain ⟨u1, r1, rfl, h1, hL⟩ := RepL.consIff.mp hL
    obtain ⟨u2, r2, rfl, h2, hL⟩ := RepL.consIff.mp hL
    obtain ⟨u3, r3, rfl, h3, hL⟩ := RepL.consIff.mp hL
    exact ⟨_, SqT.of ha, _, at0, neT n_if ⟨_, SqT.of ha, _, at0, neT n_im ⟨_, SqT.of ha, _, at0, eqT ⟨_, SqT.of ha, _, at2, _, SqT.of ha, _, at3, by decide, fun p hp => q p _ _ (Ev.new hp _) upd_same (.cons (h2.same (same_new hp _)) (.one (h3.same (same_new hp _))))⟩⟩⟩⟩
  | leaf w x =>
    unfold Stm.sh at hs
    have n1 : w ≠ Str.ofString "for" := by rcases hs.1 with rfl | rfl | rfl | rfl <;> decide +kernel
    have n2 : w ≠ Str.ofString "mark" := by rcases hs.1 with rfl | rfl | rfl | rfl <;> decide +kernel
    have n3 : w ≠ Str.ofString "if" := by rcases hs.1 with rfl | rfl | rfl | rfl <;> decide +kernel
    exact ⟨_, SqT.of ha, _, at0, neT n1 ⟨_, SqT.of ha, _, at0, neT n2 ⟨_, SqT.of ha, _, at0, neT n3 ⟨by decide, fun p hp => q p [] _ (Ev.new hp _) upd_same RepL.nil⟩⟩⟩⟩
def spForm : Sp := fun vs H Q _ => ∃ (v : V) (s : Stm) (k : Int), vs = [v, .int k] ∧ Rep true H v s.enc ∧ s.sh ∧ ∀ H', Ev [] H H' → Q .non H'
theorem ok_form (F : Fun K "check_form" "check_form" s_check_form f fd) (T : Gw mg Ra Aa Ba Ca) (hZ : KSz K w Ba sSizes) (C_first_word : Cl P w K mg base "first_word" 1 ["item"] spFirst) (C_check_test_form : Cl P w K mg base "check_test_form" 2 ["test", "spot"] spTform) : FnOk P w K mg base CX0 3 f fd ["statement", "spot"] spForm := by
  refine F.ok sc_check_form (fun vs H Q E h => ?_) (fun cdv A outer s H vs Q E hr h => ?_)
  · obtain ⟨v, s, k, rfl, _⟩ := h
    rfl
  obtain ⟨v, s, k, rfl, hR, hs, q⟩ := h
  refine ⟨_, (pss_cons (ps_if (pt_cmpR op_ne (pe_kget2 (pe_glob (v := V.ref _) (by rfl) T.g_STATEMENT_SIZES rfl) (pe_call C_first_word.ok (hr.mono (by omega)) (by rfl) C_first_word.mg C_first_word.kp C_first_word.b .nil pass0 (pa_cons (pv 0) pa_nil)) (pe_un un_neg pe_int) ⟨by rfl, by rfl, by rfl, by rfl⟩) (pe_callB call_len_seq (by rfl) T.b_len PySem.boot_len (pa_cons (pv 0) pa_nil)) (nomark _)) (pss_one ps_never) pss_nil)
        (pss_cons (ps_if (PW.pt (pw_and (pt_cmpR op_eq (pe_ix (r := rIxT K) ix_tup (pv 0) pe_int (fun _ _ => rfl)) pe_str (nomark _)) (pw_and1 (pt_cmpR op_notIn_seq (pe_ix (r := rIxT K) ix_tup (pv 0) pe_int (fun _ _ => rfl)) (pe_tup (pa_cons pe_str (pa_cons pe_str pa_nil))) (by rfl))))) (pss_one ps_never) pss_nil)
        (pss_one (ps_if (pt_cmpR op_eq (pe_ix (r := rIxT K) ix_tup (pv 0) pe_int (fun _ _ => rfl)) pe_str (nomark _)) (pss_one (ps_expr (pe_call C_check_test_form.ok (hr.mono (by omega)) (by rfl) C_check_test_form.mg C_check_test_form.kp C_check_test_form.b .nil pass0 (pa_cons (pe_ix (r := rIxT K) ix_tup (pv 0) pe_int (fun _ _ => rfl)) (pa_cons (pv 1) pa_nil))))) pss_nil)))), ?_⟩
  have hR1 := hR
  rw [senc_eq] at hR1
  obtain ⟨a, us, rfl, ha, hL⟩ := repT hR1
  obtain ⟨tk, htk⟩ := sSz hZ hs
  walk_at "rd"
  refine ⟨hZ.1, .ref a, s.wd, s.ar, rfl, hR1, _, rfl, _, htk, fun u e => ⟨.int _, ⟨tk, (Option.some.inj e).symm⟩, _, .inr (SqT.of ha), rfl, ?_⟩, fun e => by cases e⟩
  rw [if_neg (by rw [List.length_cons, hL.len]; simp)]
  refine ⟨_, SqT.of ha, _, at0, ?_⟩
  cases s with
  | loop x w b =>
    unfold Stm.sh at hs
    obtain ⟨u1, r1, rfl, h1, hL⟩ := RepL.consIff.mp hL
    obtain ⟨u2, r2, rfl, h2, hL⟩ := RepL.consIff.mp hL
    obtain ⟨u3, r3, rfl, h3, hL⟩ := RepL.consIff.mp hL
    cases Rep.strIff.mp h1
    cases Rep.strIff.mp h2
    refine eqT ⟨_, SqT.of ha, _, at2, by decide, fun p hp => ⟨_, .inr (SqT.of upd_same), rfl, by rfl, ?_⟩⟩
    have hin : inV (V.str w) [.str (Str.ofString "up"), .str (Str.ofString "down")] = decide (w ∈ ["up", "down"].map Str.ofString) := inV_strs w (["up", "down"].map Str.ofString)
    have hw : w ∈ ["up", "down"].map Str.ofString := by rcases hs.2.1 with rfl | rfl <;> simp
    rw [hin, decide_eq_true hw, if_neg (by decide)]
    have e1 : Ev [] H (upd H p (.tup [.str (Str.ofString "up"), .str (Str.ofString "down")])) := Ev.new hp _
    exact ⟨_, SqT.of (e1.kp.t _ _ ha), _, at0, neT n_fi (q _ e1)⟩
  | mark x b => exact neT n_mf ⟨_, SqT.of ha, _, at0, neT n_mi (q _ (Ev.refl _))⟩
  | cond t b1 b2 =>
    unfold Stm.sh at hs
    obtain ⟨u1, r1, rfl, h1, hL⟩ := RepL.consIff.mp hL
    exact neT n_if ⟨_, SqT.of ha, _, at0, eqT ⟨_, SqT.of ha, _, at1, u1, t, k, rfl, h1, hs.1, hs.2.1, fun H' e => q H' e⟩⟩
  | leaf w x =>
    unfold Stm.sh at hs
    have n1 : w ≠ Str.ofString "for" := by rcases hs.1 with rfl | rfl | rfl | rfl <;> decide +kernel
    have n3 : w ≠ Str.ofString "if" := by rcases hs.1 with rfl | rfl | rfl | rfl <;> decide +kernel
    exact neT n1 ⟨_, SqT.of ha, _, at0, neT n3 (q _ (Ev.refl _))⟩
def spCopy : Sp := fun vs H Q _ => ∃ al pr : Str, vs = [.str al, .str pr] ∧ al.length ≤ 6 ∧ (∀ c ∈ tl al, c ∈ tl pr) ∧ ∀ H', Ev [] H H' → Q .non H'
theorem ok_copy (F : Fun K "check_copy" "check_copy" s_check_copy f fd) (T : Gw mg Ra Aa Ba Ca) : FnOk P w K mg base CX0 1 f fd ["reads", "prints"] spCopy := by
  refine F.ok sc_check_copy (fun vs H Q E h => ?_) (fun cdv A outer s H vs Q E hr h => ?_)
  · obtain ⟨al, pr, rfl, _⟩ := h
    rfl
  obtain ⟨al, pr, rfl, hl, hc, q⟩ := h
  refine ⟨_, (pss_one (ps_for PassesOwn.never (by rfl) (pi_str (pv 0)) (pg_name (i := 2) sc_check_copy.nd rfl (by first | exact Or.inl rfl | exact Or.inr rfl)) (pss_one (ps_if (pt_cmpR op_notIn_sign (pv 2) (pv 1) (by rfl)) (pss_one ps_never) pss_nil)))), ?_⟩
  walk_at "rd"
  refine ⟨_, rfl, al, rfl, for_it walk_str (fun i σ H' => ∃ c, σ = [some (.str al), some (.str pr), c] ∧ H' = H) ⟨none, rfl, rfl⟩ (fun _ _ _ _ _ => trivial) ?_ ?_⟩
  · rintro i v σ H1 H' hi ⟨c, rfl, rfl⟩ ⟨rfl, d, hd, rfl⟩
    walk_at "rd"
    have hm : d ∈ pr.cps.toList := hc _ (cp_mem hd)
    refine ⟨d, rfl, ?_⟩
    rw [if_neg (by rw [decide_eq_true hm]; decide)]
    trivial
  · rintro σ H' ⟨c, rfl, rfl⟩
    exact q _ (Ev.refl _)
def dk (tk : List Str) : HO := .dK (tk.map fun x => (Sum.inr x, V.bl true))
theorem dk_any (x : Str) : ∀ (tk : List Str), ((tk.map fun x => ((Sum.inr x : Key), V.bl true)).any fun kv => decide (kv.1 = Sum.inr x)) = decide (x ∈ tk)
  | [] => rfl
  | y :: r => by
    rw [List.map_cons, List.any_cons, dk_any x r]
    by_cases h : y = x
    · subst h; simp
    · have h' : ¬ x = y := fun z => h z.symm
      simp [h, h']
theorem dk_get {H : Hp} {ta : Addr} {tk : List Str} {x : Str} (h : H ta = some (dk tk)) (hx : x ∉ tk) : DGet H ta (.str x) none := by
  have := DGet.k (k := Sum.inr x) h
  have e : valV (tk.map fun x => ((Sum.inr x : Key), V.bl true)) (Sum.inr x) = none := by
    have k := valV_any (Sum.inr x : Key) (tk.map fun x => ((Sum.inr x : Key), V.bl true))
    rw [dk_any, decide_eq_false hx] at k
    cases q : valV (tk.map fun x => ((Sum.inr x : Key), V.bl true)) (Sum.inr x) with
    | none => rfl
    | some v => rw [q] at k; cases k
  rw [e] at this
  exact this
theorem dk_put {H : Hp} {ta : Addr} {tk : List Str} {x : Str} (h : H ta = some (dk tk)) (hx : x ∉ tk) (hl : tk.length < sizeLine) : DPut H ta (.str x) (.bl true) (upd H ta (dk (tk ++ [x]))) := by
  refine .inl ⟨_, Sum.inr x, h, rfl, by rw [List.length_map]; exact hl, ?_⟩
  unfold putK
  rw [dk_any, decide_eq_false hx, if_neg (by decide)]
  unfold dk
  rw [List.map_append]
  rfl
theorem dk_ne {tk : List Str} (i : Int) : dk tk ≠ .lst [.int i] := fun z => by unfold dk at z; cases z
theorem upd_id {H : Hp} {a : Addr} {o : HO} (h : H a = some o) : upd H a o = H := by
  funext b
  by_cases e : b = a
  · rw [e, upd_same, h]
  · exact upd_ne e
def Stm.hds : Stm → List Str
  | .loop x _ _ => [x]
  | .mark x _ => [x]
  | _ => []
def spTaking : Sp := fun vs H Q _ => ∃ (v : V) (s : Stm) (ta : Addr) (tk : List Str), vs = [v, .ref ta] ∧ Rep true H v s.enc ∧ s.sh ∧ (∀ x ∈ s.hds, NameOk x) ∧ H ta = some (dk tk) ∧ (∀ x ∈ s.hds, x ∉ tk) ∧ tk.length < sizeLine ∧ ∀ H1 H', Ev [] H H1 → H1 ta = some (dk tk) → H' = upd H1 ta (dk (tk ++ s.hds)) → Q .non H'
theorem ok_taking (F : Fun K "check_taking" "check_taking" s_check_taking f fd) (T : Gw mg Ra Aa Ba Ca) (C_check_name : Cl P w K mg base "check_name" 4 ["name"] spCname) : FnOk P w K mg base CX0 5 f fd ["statement", "taken"] spTaking := by
  refine F.ok sc_check_taking (fun vs H Q E h => ?_) (fun cdv A outer s H vs Q E hr h => ?_)
  · obtain ⟨v, s, ta, tk, rfl, _⟩ := h
    rfl
  obtain ⟨v, s, ta, tk, rfl, hR, hs, hn, hta, hnt, hl, q⟩ := h
  have hu := hu_of hr
  have hR1 := hR
  rw [senc_eq] at hR1
  obtain ⟨a, us, rfl, ha, hL⟩ := repT hR1
  refine ⟨_, (pss_one (ps_if (pt_cmpR op_in_seq (pe_ix (r := rIxT K) ix_tup (pv 0) pe_int (fun _ _ => rfl)) (pe_tup (pa_cons pe_str (pa_cons pe_str pa_nil))) (by rfl)) (pss_cons (ps_expr (pe_call C_check_name.ok (hr.mono (by omega)) (by rfl) C_check_name.mg C_check_name.kp C_check_name.b .nil pass0 (pa_cons (pe_ix (r := rIxT K) ix_tup (pv 0) pe_int (fun _ _ => rfl)) pa_nil)))
          (pss_cons (ps_if (pt_cmp (pc_din hu (pe_ix (r := rIxT K) ix_tup (pv 0) pe_int (fun _ _ => rfl)) (pv 1))) (pss_one ps_never) pss_nil)
          (pss_one (ps_dput hu (pv 1) (pe_ix (r := rIxT K) ix_tup (pv 0) pe_int (fun _ _ => rfl)) pe_bl rfl)))) pss_nil)), ?_⟩
  walk_at "rd"
  refine ⟨_, SqT.of ha, _, at0, by decide, fun p hp => ⟨_, .inr (SqT.of upd_same), rfl, by rfl, ?_⟩⟩
  have e1 : Ev [] H (upd H p (.tup [.str (Str.ofString "for"), .str (Str.ofString "mark")])) := Ev.new hp _
  have hin : inV (V.str s.wd) [.str (Str.ofString "for"), .str (Str.ofString "mark")] = decide (s.wd ∈ ["for", "mark"].map Str.ofString) := inV_strs s.wd (["for", "mark"].map Str.ofString)
  rw [hin]
  have hor : (s.wd ∈ ["for", "mark"].map Str.ofString ∧ ∃ x ds, s.hds = [x] ∧ s.ar = .s x :: ds) ∨ (s.wd ∉ ["for", "mark"].map Str.ofString ∧ s.hds = []) := by
    cases s with
    | loop x w b => exact .inl ⟨by simp [Stm.wd], x, _, rfl, rfl⟩
    | mark x b => exact .inl ⟨by simp [Stm.wd], x, _, rfl, rfl⟩
    | cond t a b => exact .inr ⟨by show Str.ofString "if" ∉ _; decide +kernel, rfl⟩
    | leaf w x =>
      unfold Stm.sh at hs
      refine .inr ⟨?_, rfl⟩
      rcases hs.1 with h | h | h | h <;> (show w ∉ _; rw [h]; decide +kernel)
  rcases hor with ⟨hm, x, ds, hh, har⟩ | ⟨hm, hh⟩
  · rw [if_pos (decide_eq_true hm)]
    rw [har] at hL
    rw [hh] at hn hnt q
    obtain ⟨u1, r1, rfl, h1, hL⟩ := RepL.consIff.mp hL
    cases Rep.strIff.mp h1
    refine ⟨_, SqT.of (e1.kp.t _ _ ha), _, at1, x, rfl, hn x (by simp), fun H1 e2 => ?_⟩
    have e12 := e1.trans e2
    have hta1 : H1 ta = some (dk tk) := e12.obj hta dk_ne
    have ha1 := e12.kp.t _ _ ha
    have hx := hnt x (by simp)
    unfold tDIn
    walk_at "rd"
    refine ⟨_, SqT.of ha1, _, at1, none, dk_get hta1 hx, ?_⟩
    rw [if_neg (by decide)]
    unfold sDPut
    walk_at "rd"
    exact ⟨_, SqT.of ha1, _, at1, _, dk_put hta1 hx hl, q H1 _ e12 hta1 rfl⟩
  · rw [if_neg (by rw [decide_eq_false hm]; decide)]
    rw [hh] at q
    refine q _ _ e1 (e1.obj hta dk_ne) ?_
    rw [List.append_nil]
    exact (upd_id (e1.obj hta dk_ne)).symm
def spParts : Sp := fun vs H Q _ => ∃ (v : V) (s : Stm) (al pr : Str) (la ma : Addr) (L M : List Str), vs = [v, .str al, .str pr, .ref la, .ref ma] ∧ Rep true H v s.enc ∧ s.sh ∧ s.ok al pr L M ∧ Alph al ∧ H la = some (.tup (L.map V.str)) ∧ H ma = some (.tup (M.map V.str)) ∧ ∀ H', Ev [] H H' → Q .non H'
theorem ok_parts (F : Fun K "check_parts" "check_parts" s_check_parts f fd) (T : Gw mg Ra Aa Ba Ca) (C_check_known : Cl P w K mg base "check_known" 1 ["name", "names"] spKnown) (C_check_test_names : Cl P w K mg base "check_test_names" 4 ["test", "reads", "loops", "marks"] spTnames) (C_check_text : Cl P w K mg base "check_text" 1 ["text", "alphabet"] spCtext) (C_check_copy : Cl P w K mg base "check_copy" 1 ["reads", "prints"] spCopy) : FnOk P w K mg base CX0 5 f fd ["statement", "reads", "prints", "loops", "marks"] spParts := by
  refine F.ok sc_check_parts (fun vs H Q E h => ?_) (fun cdv A outer s H vs Q E hr h => ?_)
  · obtain ⟨v, s, al, pr, la, ma, L, M, rfl, _⟩ := h
    rfl
  obtain ⟨v, s, al, pr, la, ma, L, M, rfl, hR, hs, ho, hA, hla, hma, q⟩ := h
  have hR1 := hR
  rw [senc_eq] at hR1
  obtain ⟨a, us, rfl, ha, hL⟩ := repT hR1
  refine ⟨_, (pss_one (ps_if (pt_cmpR op_in_seq (pe_ix (r := rIxT K) ix_tup (pv 0) pe_int (fun _ _ => rfl)) (pe_tup (pa_cons pe_str (pa_cons pe_str pa_nil))) (by rfl)) (pss_one (ps_expr (pe_call C_check_known.ok (hr.mono (by omega)) (by rfl) C_check_known.mg C_check_known.kp C_check_known.b .nil pass0 (pa_cons (pe_ix (r := rIxT K) ix_tup (pv 0) pe_int (fun _ _ => rfl)) (pa_cons (pv 4) pa_nil))))) (pss_one (ps_if (pt_cmpR op_eq (pe_ix (r := rIxT K) ix_tup (pv 0) pe_int (fun _ _ => rfl)) pe_str (nomark _)) (pss_one (ps_expr (pe_call C_check_test_names.ok (hr.mono (by omega)) (by rfl) C_check_test_names.mg C_check_test_names.kp C_check_test_names.b .nil pass0 (pa_cons (pe_ix (r := rIxT K) ix_tup (pv 0) pe_int (fun _ _ => rfl)) (pa_cons (pv 1) (pa_cons (pv 3) (pa_cons (pv 4) pa_nil))))))) (pss_one (ps_if (pt_cmpR op_eq (pe_ix (r := rIxT K) ix_tup (pv 0) pe_int (fun _ _ => rfl)) pe_str (nomark _)) (pss_cons (ps_if (pt_cmpR op_eq (pe_ix (r := rIxT K) ix_tup (pv 0) pe_int (fun _ _ => rfl)) pe_str (nomark _)) (pss_one ps_never) pss_nil)
              (pss_one (ps_expr (pe_call C_check_text.ok (hr.mono (by omega)) (by rfl) C_check_text.mg C_check_text.kp C_check_text.b .nil pass0 (pa_cons (pe_ix (r := rIxT K) ix_tup (pv 0) pe_int (fun _ _ => rfl)) (pa_cons (pv 2) pa_nil)))))) (pss_one (ps_if (pt_cmpR op_eq (pe_ix (r := rIxT K) ix_tup (pv 0) pe_int (fun _ _ => rfl)) pe_str (nomark _)) (pss_cons (ps_expr (pe_call C_check_known.ok (hr.mono (by omega)) (by rfl) C_check_known.mg C_check_known.kp C_check_known.b .nil pass0 (pa_cons (pe_ix (r := rIxT K) ix_tup (pv 0) pe_int (fun _ _ => rfl)) (pa_cons (pv 3) pa_nil))))
                (pss_one (ps_expr (pe_call C_check_copy.ok (hr.mono (by omega)) (by rfl) C_check_copy.mg C_check_copy.kp C_check_copy.b .nil pass0 (pa_cons (pv 1) (pa_cons (pv 2) pa_nil)))))) pss_nil)))))))), ?_⟩
  walk_at "rd"
  refine ⟨_, SqT.of ha, _, at0, by decide, fun p hp => ⟨_, .inr (SqT.of upd_same), rfl, by rfl, ?_⟩⟩
  have e1 : Ev [] H (upd H p (.tup [.str (Str.ofString "set"), .str (Str.ofString "clear")])) := Ev.new hp _
  have hin : inV (V.str s.wd) [.str (Str.ofString "set"), .str (Str.ofString "clear")] = decide (s.wd ∈ ["set", "clear"].map Str.ofString) := inV_strs s.wd (["set", "clear"].map Str.ofString)
  rw [hin]
  have ha1 := e1.kp.t _ _ ha
  have hma1 := e1.kp.t _ _ hma
  have hla1 := e1.kp.t _ _ hla
  have hL1 := hL.ev e1
  have hq : ∀ H', Ev [] (upd H p (.tup [.str (Str.ofString "set"), .str (Str.ofString "clear")])) H' → Q .non H' := fun H' e => q H' (e1.trans e)
  generalize upd H p (.tup [.str (Str.ofString "set"), .str (Str.ofString "clear")]) = H1 at *
  cases s with
  | loop x w b =>
    rw [if_neg (by rw [decide_eq_false (by show Str.ofString "for" ∉ _; decide +kernel)]; decide)]
    exact ⟨_, SqT.of ha1, _, at0, neT n_fi ⟨_, SqT.of ha1, _, at0, neT (show Str.ofString "for" ≠ _ by decide +kernel) ⟨_, SqT.of ha1, _, at0, neT (show Str.ofString "for" ≠ _ by decide +kernel) (hq _ (Ev.refl _))⟩⟩⟩
  | mark x b =>
    rw [if_neg (by rw [decide_eq_false (by show Str.ofString "mark" ∉ _; decide +kernel)]; decide)]
    exact ⟨_, SqT.of ha1, _, at0, neT n_mi ⟨_, SqT.of ha1, _, at0, neT (show Str.ofString "mark" ≠ _ by decide +kernel) ⟨_, SqT.of ha1, _, at0, neT (show Str.ofString "mark" ≠ _ by decide +kernel) (hq _ (Ev.refl _))⟩⟩⟩
  | cond t b1 b2 =>
    unfold Stm.sh at hs
    unfold Stm.ok at ho
    obtain ⟨u1, r1, rfl, h1, hL⟩ := RepL.consIff.mp hL1
    rw [if_neg (by rw [decide_eq_false (by show Str.ofString "if" ∉ _; decide +kernel)]; decide)]
    exact ⟨_, SqT.of ha1, _, at0, eqT ⟨_, SqT.of ha1, _, at1, u1, t, al, la, ma, L, M, rfl, h1, hs.1, ho.1, hs.2.1, hA, hla1, hma1, fun H' e => hq H' e⟩⟩
  | leaf w x =>
    unfold Stm.ok leafOk at ho
    obtain ⟨u1, r1, rfl, h1, hL⟩ := RepL.consIff.mp hL1
    cases Rep.strIff.mp h1
    rcases ho with ⟨hw, hx⟩ | ⟨rfl, hx, hc⟩ | ⟨rfl, hx1, hx40, hc⟩
    · rw [if_pos (by rw [decide_eq_true (by show w ∈ _; rcases hw with h | h <;> rw [h] <;> simp)])]
      exact ⟨_, SqT.of ha1, _, at1, x, ma, M, rfl, hma1, hx, hq _ (Ev.refl _)⟩
    · rw [if_neg (by rw [decide_eq_false (by show Str.ofString "copy" ∉ _; decide +kernel)]; decide)]
      exact ⟨_, SqT.of ha1, _, at0, neT (show Str.ofString "copy" ≠ _ by decide +kernel) ⟨_, SqT.of ha1, _, at0, neT (show Str.ofString "copy" ≠ _ by decide +kernel) ⟨_, SqT.of ha1, _, at0, eqT ⟨_, SqT.of ha1, _, at1, x, la, L, rfl, hla1, hx, al, pr, rfl, hA.hi, hc, fun H' e => hq H' e⟩⟩⟩⟩
    · rw [if_neg (by rw [decide_eq_false (by show Str.ofString "print" ∉ _; decide +kernel)]; decide)]
      have hne : x ≠ Str.ofString "" := fun z => by
        rw [z] at hx1
        exact absurd hx1 (by decide +kernel)
      exact ⟨_, SqT.of ha1, _, at0, neT (show Str.ofString "print" ≠ _ by decide +kernel) ⟨_, SqT.of ha1, _, at0, eqT ⟨_, SqT.of ha1, _, at1, neT hne ⟨_, SqT.of ha1, _, at1, x, pr, rfl, hx40, hc, fun H' e => hq H' e⟩⟩⟩⟩
end
end TW
/-! C5 -/
set_option Elab.async false
set_option linter.all false
set_option maxRecDepth 100000
set_option maxHeartbeats 4000000
namespace TW
open PySem L2 TL
local macro_rules | `(tactic| walk_at "rd") => `(tactic| simp only [tSeq, tAsg, tOp, tUn, tVar, tCB, tCons, tNil, tRet, tDrop, gName, gSub, gTup, gCons, gNil, rI, rI0, rU, rIxL, rIxT, rIxS, rSetL, tC, L2.start, cxOf, tIfS, tIf, tTest, tB, tAnd, tOr, tNot, tAndV, tOrV, tNotV, tChain, tTup, tLst, tCall, tNext, tNever,
  rEq, rNe, tBM, tBM0, rCat, rRep, rIn, tSl, rSlL, rSlT, rSlS, rAll, rAny, rSortedS, rAppend, rPop, rExtend, tyV, tFld, tM1, tJs, tRev, tKGet, rRvL, rRvT, rRvS, rExtendT, rLstS, rRepS, tNoPart, tPart, tYes, StX.tStar, wipe, tFmtS, rIxD, tOrT, tMake, tMakeK, tCallN,
  List.map, List.length, List.replicate, List.append, List.nil_append, List.cons_append, List.append_nil, List.set, Nat.zero_add, Nat.add_zero, Nat.reduceAdd, Nat.reduceSub, List.getElem?_cons_zero, List.getElem?_cons_succ, List.length_cons, List.length_nil, List.set_cons_zero, List.set_cons_succ, List.getElem?_nil, Option.some.injEq, V.ref.injEq, V.int.injEq, V.str.injEq, V.bl.injEq, List.cons.injEq, and_true, true_and, exists_eq_left, exists_eq_left', exists_eq', exists_eq, exists_and_left, exists_const, reduceCtorEq, false_or, or_false, true_or, or_true, false_and, and_false, and_assoc, if_true, if_false, Bool.false_eq_true, Bool.true_eq_false])
local macro_rules | `(tactic| walk_at "rdd") => `(tactic| simp only [tSeq, tAsg, tOp, tUn, tVar, tCB, tCons, tNil, tRet, tDrop, gName, gSub, gTup, gCons, gNil, rI, rI0, rU, rIxL, rIxT, rIxS, rSetL, tC, L2.start, cxOf, tIfS, tIf, tTest, tB, tAnd, tOr, tNot, tAndV, tOrV, tNotV, tChain, tTup, tLst, tCall, tNext, tNever,
  rEq, rNe, tBM, tBM0, rCat, rRep, rIn, tSl, rSlL, rSlT, rSlS, rAll, rAny, rSortedS, rAppend, rPop, rExtend, tyV, tFld, tM1, tJs, tRev, tKGet, rRvL, rRvT, rRvS, rExtendT, rLstS, rRepS, tNoPart, tPart, tYes, StX.tStar, wipe, tFmtS, rIxD, tOrT, tMake, tMakeK, tCallN, tFor, tWhile, tLc, iList, iTup, iSeq, iStr, iRng1, iRng2, iEnumS, iZipS,
  List.map, List.length, List.replicate, List.append, List.nil_append, List.cons_append, List.append_nil, List.set, Nat.zero_add, Nat.add_zero, Nat.reduceAdd, Nat.reduceSub, List.getElem?_cons_zero, List.getElem?_cons_succ, List.length_cons, List.length_nil, List.set_cons_zero, List.set_cons_succ, List.getElem?_nil, Option.some.injEq, V.ref.injEq, V.int.injEq, V.str.injEq, V.bl.injEq, List.cons.injEq, and_true, true_and, exists_eq_left, exists_eq_left', exists_eq', exists_eq, exists_and_left, exists_const, reduceCtorEq, false_or, or_false, true_or, or_true, false_and, and_false, and_assoc, if_true, if_false, Bool.false_eq_true, Bool.true_eq_false])
section
variable {P : Program} {w : World} {K : PySem.W.Frag} {mg : Str → Option Value} {base : Heap} {f g : Addr} {fd gd : FuncData} {Ra Aa Ba Ca : Addr}
structure SIt where
  s : Stm
  L : List Str
  M : List Str
def SIt.enc (i : SIt) : D := .n [i.s.enc, .n (i.L.map D.s), .n (i.M.map D.s)]
def swt (st : List SIt) : Nat := (st.map fun i => i.s.wt).sum
def snm (st : List SIt) : List Str := st.flatMap fun i => i.s.names
structure Cs (H H' : Hp) (wp sp ta : Addr) (al pr : Str) (N : List Str) (st : List SIt) (us ws : List V) (tk : List Str) : Prop where
  size : swt st + ws.length ≤ 10000000
  hw : H' wp = some (.lst us)
  rep : RepL true H' us (st.map SIt.enc)
  hs : H' sp = some (.lst ws)
  it : ∀ v ∈ ws, itemV v = true
  ht : H' ta = some (dk tk)
  pm : (tk ++ snm st).Perm N
  ok : ∀ i ∈ st, i.s.sh ∧ i.s.ok al pr i.L i.M ∧ i.L.length + i.M.length ≤ tk.length
  ev : Ev [] H H'
theorem Ev.s0 {H H' : Hp} (e : Ev [] H H') : Same H H' := fun b o q => by
  rcases e b o q with h | ⟨hm, _⟩
  · exact h
  · cases hm
theorem Stm.wt_pos (s : Stm) : 1 ≤ s.wt := by cases s <;> unfold Stm.wt <;> omega
theorem swt_append (a b : List SIt) : swt (a ++ b) = swt a + swt b := by simp [swt]
theorem swt_len : ∀ (l : List SIt), l.length ≤ swt l
  | [] => Nat.zero_le _
  | t :: r => by
    have := swt_len r
    have := t.s.wt_pos
    simp [swt] at *
    omega
def nst (L M : List Str) (bs : List (List Stm)) : List SIt := bs.flatMap fun b => b.reverse.map fun s => ⟨s, L, M⟩
def bsum (bs : List (List Stm)) : Nat := (bs.map wtL).sum
theorem wtL_sum : ∀ (b : List Stm), wtL b = (b.map Stm.wt).sum
  | [] => by unfold wtL; rfl
  | s :: r => by
    unfold wtL
    rw [wtL_sum r, List.map_cons, List.sum_cons]
theorem namesL_flat : ∀ (b : List Stm), namesL b = b.flatMap Stm.names
  | [] => by unfold namesL; rfl
  | s :: r => by
    unfold namesL
    rw [namesL_flat r, List.flatMap_cons]
theorem nst_cons (L M : List Str) (b : List Stm) (bs : List (List Stm)) : nst L M (b :: bs) = (b.reverse.map fun s => ⟨s, L, M⟩) ++ nst L M bs := by simp [nst]
theorem nst_append (L M : List Str) (bs cs : List (List Stm)) : nst L M (bs ++ cs) = nst L M bs ++ nst L M cs := by simp [nst]
theorem swt_nst (L M : List Str) : ∀ (bs : List (List Stm)), swt (nst L M bs) = bsum bs
  | [] => rfl
  | b :: bs => by
    rw [nst_cons, swt_append, swt_nst L M bs]
    have : swt (b.reverse.map fun s => (⟨s, L, M⟩ : SIt)) = wtL b := by
      unfold swt
      rw [List.map_map, wtL_sum]
      show (b.reverse.map Stm.wt).sum = _
      rw [List.map_reverse, List.sum_reverse]
    rw [this]
    simp [bsum]
theorem snm_append (a b : List SIt) : snm (a ++ b) = snm a ++ snm b := by simp [snm]
theorem snm_nst (L M : List Str) : ∀ (bs : List (List Stm)), (snm (nst L M bs)).Perm (bs.flatMap namesL)
  | [] => .nil
  | b :: bs => by
    rw [nst_cons, snm_append, List.flatMap_cons]
    refine List.Perm.append ?_ (snm_nst L M bs)
    have : snm (b.reverse.map fun s => (⟨s, L, M⟩ : SIt)) = b.reverse.flatMap Stm.names := by
      unfold snm
      rw [List.flatMap_map]
    rw [this, namesL_flat]
    exact (List.reverse_perm b).flatMap_right _
theorem bsum_append (a b : List (List Stm)) : bsum (a ++ b) = bsum a + bsum b := by simp [bsum]
theorem bsum_rev (a : List (List Stm)) : bsum a.reverse = bsum a := by
  unfold bsum
  rw [List.map_reverse, List.sum_reverse]
theorem blks_wt (s : Stm) : bsum s.blks + 1 ≤ s.wt := by
  cases s <;> simp only [Stm.blks, Stm.wt, bsum, List.map_cons, List.map_nil, List.sum_cons, List.sum_nil] <;> omega
theorem blks_names (s : Stm) : s.names = s.hds ++ s.blks.flatMap namesL := by
  cases s <;> simp [Stm.names, Stm.hds, Stm.blks]
def Stm.nL (s : Stm) (L : List Str) : List Str := match s with
  | .loop x _ _ => L ++ [x]
  | _ => L
def Stm.nM (s : Stm) (M : List Str) : List Str := match s with
  | .mark x _ => M ++ [x]
  | _ => M
theorem blks_ok {al pr : Str} {L M : List Str} {s : Stm} (h : s.ok al pr L M) : ∀ b ∈ s.blks, okL al pr (s.nL L) (s.nM M) b := by
  cases s with
  | loop x w b =>
    unfold Stm.ok at h
    simpa [Stm.blks, Stm.nL, Stm.nM] using h.2.2
  | mark x b =>
    unfold Stm.ok at h
    simpa [Stm.blks, Stm.nL, Stm.nM] using h.2
  | cond t a b =>
    unfold Stm.ok at h
    simpa [Stm.blks, Stm.nL, Stm.nM] using ⟨h.2.2.1, h.2.2.2⟩
  | leaf w x => simp [Stm.blks]
theorem blks_sh {s : Stm} (h : s.sh) : ∀ b ∈ s.blks, shL b := by
  cases s with
  | loop x w b =>
    unfold Stm.sh at h
    simpa [Stm.blks] using h.2.2
  | mark x b =>
    unfold Stm.sh at h
    simpa [Stm.blks] using h.2
  | cond t a b =>
    unfold Stm.sh at h
    simpa [Stm.blks] using ⟨h.2.2.1, h.2.2.2⟩
  | leaf w x => simp [Stm.blks]
theorem okL_mem {al pr : Str} {L M : List Str} : ∀ {b : List Stm} {s : Stm}, okL al pr L M b → s ∈ b → s.ok al pr L M
  | [], s, _, h => by cases h
  | t :: r, s, k, h => by
    have k := okL_cons.mp k
    rcases List.mem_cons.mp h with rfl | h
    · exact k.1
    · exact okL_mem k.2 h
theorem hds_ok {al pr : Str} {L M : List Str} {s : Stm} (h : s.ok al pr L M) : ∀ x ∈ s.hds, NameOk x := by
  cases s with
  | loop x w b =>
    unfold Stm.ok at h
    simpa [Stm.hds] using h.1
  | mark x b =>
    unfold Stm.ok at h
    simpa [Stm.hds] using h.1
  | cond t a b => simp [Stm.hds]
  | leaf w x => simp [Stm.hds]
theorem names_wt : ∀ (b : List Stm), (namesL b).length ≤ wtL b := by
  have key : ∀ (n : Nat) (b : List Stm), wtL b ≤ n → (namesL b).length ≤ wtL b := by
    intro n
    induction n with
    | zero =>
      intro b h
      cases b with
      | nil => unfold namesL; exact Nat.zero_le _
      | cons s r =>
        have := s.wt_pos
        unfold wtL at h
        omega
    | succ n ih =>
      intro b h
      cases b with
      | nil => unfold namesL; exact Nat.zero_le _
      | cons s r =>
        have h1 := s.wt_pos
        unfold wtL at h
        unfold namesL wtL
        rw [List.length_append]
        have hr := ih r (by omega)
        have hs : s.names.length ≤ s.wt := by
          cases s with
          | loop x w b1 =>
            unfold Stm.wt at h ⊢
            have := ih b1 (by omega)
            unfold Stm.names
            rw [List.length_cons]
            omega
          | mark x b1 =>
            unfold Stm.wt at h ⊢
            have := ih b1 (by omega)
            unfold Stm.names
            rw [List.length_cons]
            omega
          | cond t a b1 =>
            unfold Stm.wt at h ⊢
            have := ih b1 (by omega)
            have := ih a (by omega)
            unfold Stm.names
            rw [List.length_append]
            omega
          | leaf w x => unfold Stm.names; exact Nat.zero_le _
        omega
  exact fun b => key _ b (Nat.le_refl _)
/-- a frozen tuple of names -/
theorem rep_strs {m : Bool} {H : Hp} : ∀ {l : List Str} {vs : List V}, RepL m H vs (l.map D.s) ↔ vs = l.map V.str
  | [], vs => RepL.nilIff
  | x :: l, vs => by
    rw [List.map_cons, RepL.consIff]
    constructor
    · rintro ⟨v, r, rfl, h1, h2⟩
      rw [Rep.strIff.mp h1, rep_strs.mp h2]
      rfl
    · rintro rfl
      exact ⟨_, _, rfl, Rep.strIff.mpr rfl, rep_strs.mpr rfl⟩
theorem sit_rep {H : Hp} {v : V} {i : SIt} (h : Rep true H v i.enc) : ∃ a x la ma, v = .ref a ∧ H a = some (.tup [x, .ref la, .ref ma]) ∧ Rep true H x i.s.enc ∧ H la = some (.tup (i.L.map V.str)) ∧ H ma = some (.tup (i.M.map V.str)) := by
  obtain ⟨a, xs, e, hs, hL⟩ := Rep.seqIff.mp h
  obtain ⟨x0, r0, rfl, h0, hL0⟩ := RepL.consIff.mp hL
  obtain ⟨x1, r1, rfl, h1, hL1⟩ := RepL.consIff.mp hL0
  obtain ⟨x2, r2, rfl, h2, hL2⟩ := RepL.consIff.mp hL1
  cases RepL.nilIff.mp hL2
  obtain ⟨la, ls, rfl, hla, hl⟩ := Rep.seqIff.mp h1
  obtain ⟨ma, ms, rfl, hma, hm⟩ := Rep.seqIff.mp h2
  cases rep_strs.mp hl
  cases rep_strs.mp hm
  rcases hs with hs | ⟨z, _⟩
  · rcases hla with hla | ⟨z, _⟩
    · rcases hma with hma | ⟨z, _⟩
      · exact ⟨a, x0, la, ma, e, hs, h0, hla, hma⟩
      · cases z
    · cases z
  · cases z
theorem sit_mk {H : Hp} {a la ma : Addr} {x : V} {i : SIt} (h : H a = some (.tup [x, .ref la, .ref ma])) (hx : Rep true H x i.s.enc) (hl : H la = some (.tup (i.L.map V.str))) (hm : H ma = some (.tup (i.M.map V.str))) : Rep true H (.ref a) i.enc :=
  Rep.seqIff.mpr ⟨a, _, rfl, .inl h, .cons hx (.cons (Rep.seqIff.mpr ⟨la, _, rfl, .inl hl, rep_strs.mpr rfl⟩) (.one (Rep.seqIff.mpr ⟨ma, _, rfl, .inl hm, rep_strs.mpr rfl⟩)))⟩
/-- while a statement is under way -/
structure Md (H' : Hp) (wp sp ta la ma : Addr) (x : V) (s : Stm) (L M : List Str) (ys ws : List V) (st : List SIt) (tk : List Str) : Prop where
  hw : H' wp = some (.lst ys)
  rep : RepL true H' ys (st.map SIt.enc)
  hs : H' sp = some (.lst ws)
  ht : H' ta = some (dk tk)
  hx : Rep true H' x s.enc
  hl : H' la = some (.tup (L.map V.str))
  hm : H' ma = some (.tup (M.map V.str))
theorem Md.same {H' H2 : Hp} {wp sp ta la ma : Addr} {x : V} {s : Stm} {L M : List Str} {ys ws : List V} {st : List SIt} {tk : List Str} (h : Md H' wp sp ta la ma x s L M ys ws st tk) (e : Same H' H2) : Md H2 wp sp ta la ma x s L M ys ws st tk :=
  ⟨e _ _ h.hw, h.rep.same e, e _ _ h.hs, e _ _ h.ht, h.hx.same e, e _ _ h.hl, e _ _ h.hm⟩
def spSpots : Sp := fun vs H Q _ => ∃ (v : V) (b : List Stm) (al pr : Str), vs = [.str al, .str pr, v] ∧ Rep true H v (.n (encL b)) ∧ Drawn al pr b ∧ ∀ (v' : V) (H' : Hp), Ev [] H H' → Q v' H'
theorem ok_spots (F : Fun K "checked_spots" "checked_spots" s_checked_spots f fd) (T : Gw mg Ra Aa Ba Ca) (C_check_form : Cl P w K mg base "check_form" 3 ["statement", "spot"] spForm) (C_check_taking : Cl P w K mg base "check_taking" 5 ["statement", "taken"] spTaking) (C_check_parts : Cl P w K mg base "check_parts" 5 ["statement", "reads", "prints", "loops", "marks"] spParts) (C_blocks_within : Cl P w K mg base "blocks_within" 1 ["statement"] spBlocks) : FnOk P w K mg base CX0 6 f fd ["reads", "prints", "block"] spSpots := by
  refine F.ok sc_checked_spots (fun vs H Q E h => ?_) (fun cdv A outer s H vs Q E hr h => ?_)
  · obtain ⟨v, b, al, pr, rfl, _⟩ := h
    rfl
  obtain ⟨v, b, al, pr, rfl, hR, hD, q⟩ := h
  refine ⟨_, (pss_cons (ps_set (i := 3) sc_checked_spots.nd rfl (by first | exact Or.inl rfl | exact Or.inr rfl) (pe_lst pa_nil))
        (pss_cons (ps_set (i := 4) sc_checked_spots.nd rfl (by first | exact Or.inl rfl | exact Or.inr rfl) pe_dnewK)
        (pss_cons (ps_setLc (i := 5) (own := [("statement", 6)]) (g := gName 6) (by rfl) sc_checked_spots.nd rfl rfl (sw_true rfl rfl rfl (by decide +kernel)) (pi_tup (pe_rev rv_tup (pv 2))) (blkOk_by (N := ["reads", "prints", "block", "spots", "taken", "waiting", "statement", "loops", "marks", "inner", "part"]) (sc := defScope s_checked_spots) (by decide +kernel)) (fun _ _ _ _ _ => pg_name (i := 6) sc_checked_spots.nd rfl (by first | exact Or.inl rfl | exact Or.inr rfl)) (fun _ _ _ _ _ => pts_nil) (fun _ _ _ _ _ => (pe_tup (pa_cons (pv 6) (pa_cons (pe_tup pa_nil) (pa_cons (pe_tup pa_nil) pa_nil))))))
        (pss_cons (ps_while PassesOwn.never (pt_truth (pv 5) (by intro _; rfl)) (pss_cons (ps_asg (pe_bm0 PySem.F.plainAttrs_list PySem.F.slot_list_pop PySem.F.type_list_pop mt_pop (pv 5)) (pg_tup (n := 3) (by rfl) (pgs_cons (pg_name (i := 6) sc_checked_spots.nd rfl (by first | exact Or.inl rfl | exact Or.inr rfl)) (pgs_cons (pg_name (i := 7) sc_checked_spots.nd rfl (by first | exact Or.inl rfl | exact Or.inr rfl)) (pgs_cons (pg_name (i := 8) sc_checked_spots.nd rfl (by first | exact Or.inl rfl | exact Or.inr rfl)) pgs_nil)))))
          (pss_cons (ps_expr (pe_call C_check_form.ok (hr.mono (by omega)) (by rfl) C_check_form.mg C_check_form.kp C_check_form.b .nil pass0 (pa_cons (pv 6) (pa_cons (pe_callB call_len_seq (by rfl) T.b_len PySem.boot_len (pa_cons (pv 3) pa_nil)) pa_nil))))
          (pss_cons (ps_expr (pe_call C_check_taking.ok (hr.mono (by omega)) (by rfl) C_check_taking.mg C_check_taking.kp C_check_taking.b .nil pass0 (pa_cons (pv 6) (pa_cons (pv 4) pa_nil))))
          (pss_cons (ps_expr (pe_call C_check_parts.ok (hr.mono (by omega)) (by rfl) C_check_parts.mg C_check_parts.kp C_check_parts.b .nil pass0 (pa_cons (pv 6) (pa_cons (pv 0) (pa_cons (pv 1) (pa_cons (pv 7) (pa_cons (pv 8) pa_nil)))))))
          (pss_cons (ps_expr (pe_bm PySem.F.plainAttrs_list PySem.F.slot_list_append PySem.F.type_list_append mt_append (pv 3) (pa_cons (pe_tup (pa_cons (pe_ix (r := rIxT K) ix_tup (pv 6) pe_int (fun _ _ => rfl)) (pa_cons (pv 7) (pa_cons (pv 8) pa_nil)))) pa_nil)))
          (pss_cons (ps_if (pt_cmpR op_eq (pe_ix (r := rIxT K) ix_tup (pv 6) pe_int (fun _ _ => rfl)) pe_str (nomark _)) (pss_one (ps_set (i := 7) sc_checked_spots.nd rfl (by first | exact Or.inl rfl | exact Or.inr rfl) (pe_tup (StX.pa_star (pv 7) (pa_cons (pe_ix (r := rIxT K) ix_tup (pv 6) pe_int (fun _ _ => rfl)) pa_nil))))) pss_nil)
          (pss_cons (ps_if (pt_cmpR op_eq (pe_ix (r := rIxT K) ix_tup (pv 6) pe_int (fun _ _ => rfl)) pe_str (nomark _)) (pss_one (ps_set (i := 8) sc_checked_spots.nd rfl (by first | exact Or.inl rfl | exact Or.inr rfl) (pe_tup (StX.pa_star (pv 8) (pa_cons (pe_ix (r := rIxT K) ix_tup (pv 6) pe_int (fun _ _ => rfl)) pa_nil))))) pss_nil)
          (pss_one (ps_for PassesOwn.never (by rfl) (pi_tup (pe_rev rv_tup (pe_call C_blocks_within.ok (hr.mono (by omega)) (by rfl) C_blocks_within.mg C_blocks_within.kp C_blocks_within.b .nil pass0 (pa_cons (pv 6) pa_nil)))) (pg_name (i := 9) sc_checked_spots.nd rfl (by first | exact Or.inl rfl | exact Or.inr rfl)) (pss_one (ps_expr (pe_bm PySem.F.plainAttrs_list PySem.F.slot_list_extend PySem.F.type_list_extend mt_extend (pv 5) (pa_cons (pe_lc (own := [("part", 10)]) (g := gName 10) (by rfl) sc_checked_spots.nd (pi_tup (pe_rev rv_tup (pv 9))) (blkOk_by (N := ["reads", "prints", "block", "spots", "taken", "waiting", "statement", "loops", "marks", "inner", "part"]) (sc := defScope s_checked_spots) (by decide +kernel)) (fun _ _ _ _ _ => pg_name (i := 10) sc_checked_spots.nd rfl (by first | exact Or.inl rfl | exact Or.inr rfl)) (fun _ _ _ _ _ => pts_nil) (fun _ _ _ _ _ => (pe_tup (pa_cons (pv 10) (pa_cons (pv 7) (pa_cons (pv 8) pa_nil)))))) pa_nil))))))))))))))
        (pss_one (ps_ret (pe_callTy call_tuple_of (by rfl) T.b_tuple (by decide +kernel) (pa_cons (pv 3) pa_nil)))))))), ?_⟩
  walk_at "rd"
  obtain ⟨a, vs0, rfl, ha0, hL⟩ := Rep.seqIff.mp hR
  have ha : H a = some (.tup vs0) := by
    rcases ha0 with h | ⟨z, _⟩
    · exact h
    · cases z
  refine ⟨by decide, fun sp hsp ta hta => ?_⟩
  have e1 := Ev.new (l := []) hsp (.lst [])
  have e2 := e1.trans (Ev.new hta (.dK []))
  have hsp2 := (upd_ne (o := .dK []) (ne_of_none upd_same hta)).trans (upd_same (H := H) (a := sp) (o := .lst []))
  have hta2 : (upd (upd H sp (.lst [])) ta (.dK [])) ta = some (dk []) := upd_same
  have fsp := hsp
  have fta := e1.free hta
  have nst' : sp ≠ ta := ne_of_none upd_same hta
  generalize upd (upd H sp (.lst [])) ta (.dK []) = H2 at *
  have ha2 := e2.kp.t _ _ ha
  refine ⟨_, rfl, a, vs0, rfl, SqT.of ha2, fun p8 hp8 => ⟨p8, rfl, ⟨_, SqT.of upd_same⟩, fun wp hwp => ?_⟩⟩
  have s8 : Same H2 (upd H2 p8 (.tup vs0.reverse)) := same_new hp8 _
  have e8 := e2.trans (Ev.new hp8 (.tup vs0.reverse))
  have h8 : (upd H2 p8 (.tup vs0.reverse)) p8 = some (.tup vs0.reverse) := upd_same
  have hsp8 := s8 _ _ hsp2
  have hta8 := s8 _ _ hta2
  have hL8 := hL.ev e8
  generalize upd H2 p8 (.tup vs0.reverse) = H8 at *
  have hlen : vs0.length = b.length := by rw [hL.len, encL_len]
  have hb100 := hD.len
  refine lc_tup (xs := vs0.reverse) (fun i H' => ∃ us, H' wp = some (.lst us) ∧ RepL true H' us (((b.reverse.map fun s => (⟨s, [], []⟩ : SIt)).take i).map SIt.enc) ∧ us.length = i ∧ Same H8 H') ⟨[], upd_same, RepL.nil, rfl, same_new hwp _⟩ (fun i H' _ ⟨us, _, _, _, sm⟩ => SqT.of (sm _ _ h8)) ?_ ?_
  · rintro i x H' hx ⟨us, hu, hr, hn, sm⟩
    walk_at "rd"
    obtain ⟨d, hd, hrx⟩ := (RepL.rev hL8).get' hx
    rw [encL_map, ← List.map_reverse, List.getElem?_map] at hd
    obtain ⟨s1, hs1, rfl⟩ := Option.map_eq_some_iff.mp hd
    have hi : (b.reverse.map fun s => (⟨s, [], []⟩ : SIt))[i]? = some ⟨s1, [], []⟩ := by rw [List.getElem?_map, hs1]; rfl
    have hib : i < b.length := by
      rcases Nat.lt_or_ge i b.reverse.length with k | k
      · rwa [List.length_reverse] at k
      · rw [List.getElem?_eq_none k] at hs1
        cases hs1
    refine ⟨by decide, fun p1 hp1 => ⟨by decide, fun p2 hp2 => ⟨by decide, fun p3 hp3 => ?_⟩⟩⟩
    have m1 : Same H' (upd H' p1 (.tup [])) := same_new hp1 _
    have m2 := same_new hp2 (.tup [])
    have m3 := same_new hp3 (.tup [x, .ref p1, .ref p2])
    have m : Same H' (upd (upd (upd H' p1 (.tup [])) p2 (.tup [])) p3 (.tup [x, .ref p1, .ref p2])) := fun b u e => m3 _ _ (m2 _ _ (m1 _ _ e))
    have g1 := m3 _ _ (m2 _ _ (upd_same (H := H') (a := p1) (o := .tup [])))
    have g2 := m3 _ _ (upd_same (H := upd H' p1 (.tup [])) (a := p2) (o := .tup []))
    have g3 : (upd (upd (upd H' p1 (.tup [])) p2 (.tup [])) p3 (.tup [x, .ref p1, .ref p2])) p3 = some (.tup [x, .ref p1, .ref p2]) := upd_same
    generalize upd (upd (upd H' p1 (.tup [])) p2 (.tup [])) p3 (.tup [x, .ref p1, .ref p2]) = H9 at *
    have hu9 := m _ _ hu
    have hx9 : Rep true H9 x s1.enc := (hrx.same sm).same m
    refine ⟨us, hu9, by rw [hn]; exact small1000 (by omega), us ++ [.ref p3], upd_same, ?_, by simp [hn], fun b u e => (upd_ne (ne_of_none e hwp)).trans (m _ _ (sm _ _ e))⟩
    rw [List.take_succ, hi, List.map_append]
    exact ((hr.same m).append (.one (sit_mk (i := ⟨s1, [], []⟩) g3 hx9 g1 g2))).updT hu9
  rintro H3 ⟨us0, hu0, hr0, hn0, sm0⟩
  rw [List.length_reverse, hlen, show b.length = (b.reverse.map fun s => (⟨s, [], []⟩ : SIt)).length by simp, List.take_length] at hr0
  have e3 : Ev [] H H3 := e8.trans (Ev.of_same sm0)
  have fwp := e8.free hwp
  have nsw : sp ≠ wp := ne_of_none hsp8 hwp
  have ntw : ta ≠ wp := ne_of_none hta8 hwp
  have hN := hD.nd
  have hNl := names_wt b
  have hwt := hD.wt
  refine whileL (fun m σ H' => ∃ (st : List SIt) (us ws : List V) (tk : List Str) (c6 c7 c8 c9 : Option V), σ = [some (.str al), some (.str pr), some (.ref a), some (.ref sp), some (.ref ta), some (.ref wp), c6, c7, c8, c9, none] ∧ m = swt st ∧ Cs H H' wp sp ta al pr (namesL b) st us ws tk) ?_ ?_
  · refine ⟨_, nst [] [] [b], us0, [], [], none, none, none, none, rfl, rfl, ?_, hu0, ?_, sm0 _ _ hsp8, by simp, sm0 _ _ hta8, ?_, ?_, e3⟩
    · rw [swt_nst]
      simp [bsum]
      exact hwt
    · simpa [nst] using hr0
    · have := snm_nst [] [] [b]
      simpa using this
    · intro i hi
      simp only [nst, List.flatMap_cons, List.flatMap_nil, List.append_nil, List.mem_map, List.mem_reverse] at hi
      obtain ⟨s1, hs1, rfl⟩ := hi
      exact ⟨shL_mem hD.sh hs1, okL_mem hD.ok hs1, Nat.le_refl _⟩
  rintro m σ H' ⟨st, us, ws, tk, c6, c7, c8, c9, rfl, rfl, Z⟩
  refine ⟨wp, us, rfl, Z.hw, ?_, fun _ => ?_⟩
  · rintro ys y rfl
    obtain ⟨size, hw, rep, hs, hit, ht, pm, hok, ev⟩ := Z
    obtain ⟨st, i1, rfl, rep1, hy⟩ := rep.snocM
    obtain ⟨s1, L, M⟩ := i1
    have hok1 := hok ⟨s1, L, M⟩ (by simp)
    have hyy : Rep true (upd H' wp (.lst ys)) y (SIt.enc ⟨s1, L, M⟩) := hy.updT hw
    obtain ⟨ya, x, la, ma, rfl, hya, hx, hla, hma⟩ := sit_rep hyy
    have D1 : Md (upd H' wp (.lst ys)) wp sp ta la ma x s1 L M ys ws st tk := ⟨upd_same, rep1.updT hw, (upd_ne nsw).trans hs, (upd_ne ntw).trans ht, hx, hla, hma⟩
    have ev1 : Ev [] H (upd H' wp (.lst ys)) := ev.over fwp
    have hswt : swt (st ++ [⟨s1, L, M⟩]) = swt st + s1.wt := by rw [swt_append]; simp [swt]
    have hsnm : snm (st ++ [⟨s1, L, M⟩]) = snm st ++ s1.names := by rw [snm_append]; simp [snm]
    have hbw := blks_wt s1
    have hstl := swt_len st
    rw [hswt] at size
    rw [hsnm, blks_names] at pm
    refine cut (fun σ H2 => σ = [some (.str al), some (.str pr), some (.ref a), some (.ref sp), some (.ref ta), some (.ref wp), some x, some (.ref la), some (.ref ma), c9, none] ∧ H2 = upd H' wp (.lst ys)) (fun N hN => ?_) ?_
    · walk_at "rd"
      refine ⟨.inl ⟨_, SqL.of hw⟩, _, hw, _, last_of ys _, ?_⟩
      rw [List.dropLast_concat]
      exact ⟨ya, rfl, _, SqT.of hya, rfl, _, _, rfl, _, _, rfl, _, _, rfl, rfl, hN _ _ ⟨rfl, rfl⟩⟩
    rintro σ H4 ⟨rfl, hH4⟩
    rw [← hH4] at D1 ev1
    refine cut (fun σ H2 => σ = [some (.str al), some (.str pr), some (.ref a), some (.ref sp), some (.ref ta), some (.ref wp), some x, some (.ref la), some (.ref ma), c9, none] ∧ Md H2 wp sp ta la ma x s1 L M ys ws st tk ∧ Ev [] H H2) (fun N hN => ?_) ?_
    · walk_at "rd"
      exact ⟨_, .inl (SqL.of D1.hs), x, s1, _, rfl, D1.hx, hok1.1, fun H5 e5 => hN _ _ ⟨rfl, D1.same e5.s0, ev1.trans e5⟩⟩
    rintro σ H5 ⟨rfl, D5, ev5⟩
    have hndt : (tk ++ (snm st ++ (s1.hds ++ s1.blks.flatMap namesL))).Nodup := pm.nodup_iff.mpr hN
    have htl : tk.length ≤ 10000000 := by
      have := pm.length_eq
      rw [List.length_append] at this
      omega
    refine cut (fun σ H2 => σ = [some (.str al), some (.str pr), some (.ref a), some (.ref sp), some (.ref ta), some (.ref wp), some x, some (.ref la), some (.ref ma), c9, none] ∧ Md H2 wp sp ta la ma x s1 L M ys ws st (tk ++ s1.hds) ∧ Ev [] H H2) (fun N hN => ?_) ?_
    · walk_at "rd"
      refine ⟨x, s1, ta, tk, rfl, D5.hx, hok1.1, hds_ok hok1.2.1, D5.ht, fun z hz => ?_, by rw [szl]; omega, fun H6 H7 e6 h6 e7 => ?_⟩
      · have := List.nodup_append.mp hndt
        intro hz2
        exact this.2.2 z hz2 z (by simp [hz]) rfl
      · have D6 := D5.same e6.s0
        have t7 : Tp H6 H7 := by
          rw [e7]
          exact Tp.upd fun vs z => by rw [D6.ht] at z; unfold dk at z; cases z
        have k7 : ∀ b, b ≠ ta → H7 b = H6 b := fun b hb => by rw [e7]; exact upd_ne hb
        refine hN _ _ ⟨rfl, ⟨(k7 _ ntw.symm).trans D6.hw, D6.rep.tp t7, (k7 _ nst').trans D6.hs, by rw [e7]; exact upd_same, D6.hx.tp t7, t7 _ _ D6.hl, t7 _ _ D6.hm⟩, ?_⟩
        rw [e7]
        exact (ev5.trans e6).over fta
    rintro σ H6 ⟨rfl, D6, ev6⟩
    refine cut (fun σ H2 => σ = [some (.str al), some (.str pr), some (.ref a), some (.ref sp), some (.ref ta), some (.ref wp), some x, some (.ref la), some (.ref ma), c9, none] ∧ Md H2 wp sp ta la ma x s1 L M ys ws st (tk ++ s1.hds) ∧ Ev [] H H2) (fun N hN => ?_) ?_
    · walk_at "rd"
      exact ⟨x, s1, al, pr, la, ma, L, M, rfl, D6.hx, hok1.1, hok1.2.1, hD.hal, D6.hl, D6.hm, fun H7 e7 => hN _ _ ⟨rfl, D6.same e7.s0, ev6.trans e7⟩⟩
    rintro σ H7 ⟨rfl, D7, ev7⟩
    have hx7 := D7.hx
    rw [senc_eq] at hx7
    obtain ⟨ax, ux, rfl, hax, hLx⟩ := repT hx7
    refine cut (fun σ H2 => σ = [some (.str al), some (.str pr), some (.ref a), some (.ref sp), some (.ref ta), some (.ref wp), some (.ref ax), some (.ref la), some (.ref ma), c9, none] ∧ (∃ p, Md H2 wp sp ta la ma (.ref ax) s1 L M ys (ws ++ [.ref p]) st (tk ++ s1.hds)) ∧ Ev [] H H2) (fun N hN => ?_) ?_
    · walk_at "rd"
      refine ⟨.inl ⟨_, SqL.of D7.hs⟩, _, SqT.of hax, _, at0, by decide, fun p hp => ?_⟩
      have D8 := D7.same (same_new hp (.tup [.str s1.wd, .ref la, .ref ma]))
      refine ⟨_, D8.hs, by rw [szl]; omega, hN _ _ ⟨rfl, ⟨p, (upd_ne nsw.symm).trans D8.hw, D8.rep.updT D8.hs, upd_same, (upd_ne nst'.symm).trans D8.ht, D8.hx.updT D8.hs, Tp.lst D8.hs _ _ D8.hl, Tp.lst D8.hs _ _ D8.hm⟩, (ev7.trans (Ev.new hp _)).over fsp⟩⟩
    rintro σ H8' ⟨rfl, ⟨pz, D8⟩, ev8⟩
    refine cut (fun σ H2 => ∃ la', σ = [some (.str al), some (.str pr), some (.ref a), some (.ref sp), some (.ref ta), some (.ref wp), some (.ref ax), some (.ref la'), some (.ref ma), c9, none] ∧ Md H2 wp sp ta la' ma (.ref ax) s1 (s1.nL L) M ys (ws ++ [.ref pz]) st (tk ++ s1.hds) ∧ Ev [] H H2) (fun N hN => ?_) ?_
    · have hx8 := D8.hx
      rw [senc_eq] at hx8
      obtain ⟨a2, u2, e, hax8, hL8'⟩ := repT hx8
      cases e
      walk_at "rd"
      cases s1 with
      | loop x1 w1 b1 =>
        obtain ⟨y1, r1, rfl, h1, hL8'⟩ := RepL.consIff.mp hL8'
        cases Rep.strIff.mp h1
        have hLl : L.length + M.length ≤ tk.length := hok1.2.2
        refine ⟨_, SqT.of hax8, _, at0, eqT ⟨_, .inl (SqT.of D8.hl), _, SqT.of hax8, _, at1, ?_, fun p hp => hN _ _ ⟨p, rfl, ?_, ev8.trans (Ev.new hp _)⟩⟩⟩
        · rw [List.length_append, List.length_map, List.length_singleton, szl]
          omega
        · have D9 := D8.same (same_new hp (.tup (L.map V.str ++ [.str x1])))
          exact ⟨D9.hw, D9.rep, D9.hs, D9.ht, D9.hx, upd_same.trans (by rw [snoc_map]; rfl), D9.hm⟩
      | mark x1 b1 => exact ⟨_, SqT.of hax8, _, at0, neT n_mf (hN _ _ ⟨la, rfl, D8, ev8⟩)⟩
      | cond t1 b1 b2 => exact ⟨_, SqT.of hax8, _, at0, neT n_if (hN _ _ ⟨la, rfl, D8, ev8⟩)⟩
      | leaf w1 x1 =>
        have hs1 := hok1.1
        unfold Stm.sh at hs1
        have n1 : w1 ≠ Str.ofString "for" := by rcases hs1.1 with rfl | rfl | rfl | rfl <;> decide +kernel
        exact ⟨_, SqT.of hax8, _, at0, neT n1 (hN _ _ ⟨la, rfl, D8, ev8⟩)⟩
    rintro σ H9 ⟨la', rfl, D9, ev9⟩
    refine cut (fun σ H2 => ∃ ma', σ = [some (.str al), some (.str pr), some (.ref a), some (.ref sp), some (.ref ta), some (.ref wp), some (.ref ax), some (.ref la'), some (.ref ma'), c9, none] ∧ Md H2 wp sp ta la' ma' (.ref ax) s1 (s1.nL L) (s1.nM M) ys (ws ++ [.ref pz]) st (tk ++ s1.hds) ∧ Ev [] H H2) (fun N hN => ?_) ?_
    · have hx8 := D9.hx
      rw [senc_eq] at hx8
      obtain ⟨a2, u2, e, hax8, hL8'⟩ := repT hx8
      cases e
      walk_at "rd"
      cases s1 with
      | mark x1 b1 =>
        obtain ⟨y1, r1, rfl, h1, hL8'⟩ := RepL.consIff.mp hL8'
        cases Rep.strIff.mp h1
        have hMl : L.length + M.length ≤ tk.length := hok1.2.2
        refine ⟨_, SqT.of hax8, _, at0, eqT ⟨_, .inl (SqT.of D9.hm), _, SqT.of hax8, _, at1, ?_, fun p hp => hN _ _ ⟨p, rfl, ?_, ev9.trans (Ev.new hp _)⟩⟩⟩
        · rw [List.length_append, List.length_map, List.length_singleton, szl]
          omega
        · have D10 := D9.same (same_new hp (.tup (M.map V.str ++ [.str x1])))
          exact ⟨D10.hw, D10.rep, D10.hs, D10.ht, D10.hx, D10.hl, upd_same.trans (by rw [snoc_map]; rfl)⟩
      | loop x1 w1 b1 => exact ⟨_, SqT.of hax8, _, at0, neT n_mf.symm (hN _ _ ⟨ma, rfl, D9, ev9⟩)⟩
      | cond t1 b1 b2 => exact ⟨_, SqT.of hax8, _, at0, neT n_im (hN _ _ ⟨ma, rfl, D9, ev9⟩)⟩
      | leaf w1 x1 =>
        have hs1 := hok1.1
        unfold Stm.sh at hs1
        have n1 : w1 ≠ Str.ofString "mark" := by rcases hs1.1 with rfl | rfl | rfl | rfl <;> decide +kernel
        exact ⟨_, SqT.of hax8, _, at0, neT n1 (hN _ _ ⟨ma, rfl, D9, ev9⟩)⟩
    rintro σ H10 ⟨ma', rfl, D10, ev10⟩
    refine ⟨_, rfl, .ref ax, s1, rfl, D10.hx, hok1.1, fun pb us3 H11 e11 h11 r11 => ⟨pb, us3, rfl, SqT.of h11, fun p4 hp4 => ⟨p4, rfl, ⟨_, SqT.of upd_same⟩, ?_⟩⟩⟩
    have s12 : Same H10 (upd H11 p4 (.tup us3.reverse)) := fun b u e => (same_new hp4 _) _ _ (e11.s0 _ _ e)
    have D12 := D10.same s12
    have r12 := r11.same (same_new hp4 (.tup us3.reverse))
    have ev12 : Ev [] H (upd H11 p4 (.tup us3.reverse)) := ev10.trans (Ev.of_same s12)
    have h12 : (upd H11 p4 (.tup us3.reverse)) p4 = some (.tup us3.reverse) := upd_same
    generalize upd H11 p4 (.tup us3.reverse) = H12 at *
    have n4w : p4 ≠ wp := fun z => by
      have := D12.hw
      rw [← z, h12] at this
      cases this
    have bsz : ∀ i, bsum (s1.blks.reverse.take i) ≤ bsum s1.blks := fun i => by
      have h1 := bsum_append (s1.blks.reverse.take i) (s1.blks.reverse.drop i)
      rw [List.take_append_drop, bsum_rev] at h1
      omega
    refine for_tup (xs := us3.reverse) (fun i σ H' => ∃ (c9 : Option V) (us : List V), σ = [some (.str al), some (.str pr), some (.ref a), some (.ref sp), some (.ref ta), some (.ref wp), some (.ref ax), some (.ref la'), some (.ref ma'), c9, none] ∧ H' wp = some (.lst us) ∧ RepL true H' us ((st ++ nst (s1.nL L) (s1.nM M) (s1.blks.reverse.take i)).map SIt.enc) ∧ (∀ b u, b ≠ wp → H12 b = some u → H' b = some u) ∧ Ev [] H H') ⟨c9, ys, rfl, D12.hw, by simpa [nst] using D12.rep, fun b u _ e => e, ev12⟩ (fun i σ H' _ ⟨c, us, _, _, _, k, _⟩ => SqT.of (k _ _ n4w h12)) ?_ ?_
    · rintro i x σ H' hx ⟨c, us, rfl, hus, hrs, k, ev'⟩
      obtain ⟨d, hd, hrx⟩ := (RepL.rev r12).get' hx
      rw [← List.map_reverse, List.getElem?_map] at hd
      obtain ⟨bi, hbi, rfl⟩ := Option.map_eq_some_iff.mp hd
      have hbm : bi ∈ s1.blks := List.mem_reverse.mp (List.mem_of_getElem? hbi)
      have tpk : Tp H12 H' := fun b u e => k _ _ (fun z => by rw [z, D12.hw] at e; cases e) e
      have hrx' := hrx.tp tpk
      obtain ⟨ab, ub, rfl, hab0, hLb⟩ := Rep.seqIff.mp hrx'
      have hab : H' ab = some (.tup ub) := by
        rcases hab0 with h | ⟨z, _⟩
        · exact h
        · cases z
      have hblen : ub.length = bi.length := by rw [hLb.len, encL_len]
      have hbiw : bi.length ≤ 10000000 := by
        have h1 := len_wt bi
        have h2 := bsz (i + 1)
        rw [List.take_succ, hbi, bsum_append] at h2
        have h3 : bsum ((some bi).toList) = wtL bi := by simp [bsum]
        omega
      walk_at "rd"
      refine ⟨.inl ⟨_, SqL.of hus⟩, _, rfl, ab, ub, rfl, SqT.of hab, fun p5 hp5 => ⟨p5, rfl, ⟨_, SqT.of upd_same⟩, fun Dd hDd => ?_⟩⟩
      have m5 : Same H' (upd H' p5 (.tup ub.reverse)) := same_new hp5 _
      have h5 : (upd H' p5 (.tup ub.reverse)) p5 = some (.tup ub.reverse) := upd_same
      have e5 : Ev [] H' (upd H' p5 (.tup ub.reverse)) := Ev.new hp5 _
      have hLb5 := hLb.same m5
      generalize upd H' p5 (.tup ub.reverse) = H5' at *
      have hl5 := m5 _ _ (tpk _ _ D12.hl)
      have hm5 := m5 _ _ (tpk _ _ D12.hm)
      refine lc_tup (xs := ub.reverse) (fun j H6 => ∃ zs, H6 Dd = some (.lst zs) ∧ RepL true H6 zs (((bi.reverse.map fun s => (⟨s, s1.nL L, s1.nM M⟩ : SIt)).take j).map SIt.enc) ∧ zs.length = j ∧ Same H5' H6) ⟨[], upd_same, RepL.nil, rfl, same_new hDd _⟩ (fun j H6 _ ⟨zs, _, _, _, sm⟩ => SqT.of (sm _ _ h5)) ?_ ?_
      · rintro j x H6 hx ⟨zs, hz, hr, hn, sm⟩
        walk_at "rd"
        obtain ⟨d, hd, hrx⟩ := (RepL.rev hLb5).get' hx
        rw [encL_map, ← List.map_reverse, List.getElem?_map] at hd
        obtain ⟨s2, hs2, rfl⟩ := Option.map_eq_some_iff.mp hd
        have hi : (bi.reverse.map fun s => (⟨s, s1.nL L, s1.nM M⟩ : SIt))[j]? = some ⟨s2, s1.nL L, s1.nM M⟩ := by rw [List.getElem?_map, hs2]; rfl
        have hib : j < bi.length := by
          rcases Nat.lt_or_ge j bi.reverse.length with k | k
          · rwa [List.length_reverse] at k
          · rw [List.getElem?_eq_none k] at hs2
            cases hs2
        refine ⟨by decide, fun p3 hp3 => ?_⟩
        have m3 : Same H6 (upd H6 p3 (.tup [x, .ref la', .ref ma'])) := same_new hp3 _
        have g3 : (upd H6 p3 (.tup [x, .ref la', .ref ma'])) p3 = some (.tup [x, .ref la', .ref ma']) := upd_same
        generalize upd H6 p3 (.tup [x, .ref la', .ref ma']) = H9 at *
        have hu9 := m3 _ _ hz
        have hx9 : Rep true H9 x s2.enc := (hrx.same sm).same m3
        refine ⟨zs, hu9, by rw [hn, szl]; omega, zs ++ [.ref p3], upd_same, ?_, by simp [hn], fun b u e => (upd_ne (ne_of_none e hDd)).trans (m3 _ _ (sm _ _ e))⟩
        rw [List.take_succ, hi, List.map_append]
        exact ((hr.same m3).append (.one (sit_mk (i := ⟨s2, s1.nL L, s1.nM M⟩) g3 hx9 (m3 _ _ (sm _ _ hl5)) (m3 _ _ (sm _ _ hm5))))).updT hu9
      · rintro H6 ⟨zs, hz, hr, hn, sm⟩
        rw [List.length_reverse, hblen, show bi.length = (bi.reverse.map fun s => (⟨s, s1.nL L, s1.nM M⟩ : SIt)).length by simp, List.take_length] at hr
        have hus6 := sm _ _ (m5 _ _ hus)
        have hrs6 := (hrs.same m5).same sm
        have hzl : zs.length = bi.length := by rw [hr.len]; simp
        have hbs2 := bsz (i + 1)
        have htk2 : s1.blks.reverse.take (i + 1) = s1.blks.reverse.take i ++ [bi] := by rw [List.take_succ, hbi]; rfl
        rw [htk2, bsum_append] at hbs2
        have hb1 : bsum [bi] = wtL bi := by simp [bsum]
        have hlw := len_wt bi
        have husl : us.length = (st ++ nst (s1.nL L) (s1.nM M) (s1.blks.reverse.take i)).length := by rw [hrs.len, List.length_map]
        have hsw := swt_len (st ++ nst (s1.nL L) (s1.nM M) (s1.blks.reverse.take i))
        rw [swt_append, swt_nst] at hsw
        refine ⟨Dd, rfl, us, hus6, zs, hz, by rw [szl]; omega, _, upd_same, ?_, fun b u hb e => (upd_ne hb).trans (sm _ _ (m5 _ _ (k _ _ hb e))), ((ev'.trans e5).trans (Ev.of_same sm)).over fwp⟩
        rw [htk2, nst_append, ← List.append_assoc, List.map_append]
        refine RepL.updT (hrs6.append ?_) hus6
        simpa [nst] using hr
    · rintro σ H' ⟨c, us, rfl, hus, hrs, k, ev'⟩
      have hlr : us3.reverse.length = s1.blks.reverse.length := by rw [List.length_reverse, r12.len, List.length_map, List.length_reverse]
      rw [hlr, List.take_length] at hrs
      have hsz2 : swt (st ++ nst (s1.nL L) (s1.nM M) s1.blks.reverse) = swt st + bsum s1.blks := by rw [swt_append, swt_nst, bsum_rev]
      refine ⟨swt (st ++ nst (s1.nL L) (s1.nM M) s1.blks.reverse), by rw [hsz2, hswt]; omega, st ++ nst (s1.nL L) (s1.nM M) s1.blks.reverse, us, ws ++ [.ref pz], tk ++ s1.hds, _, _, _, _, rfl, rfl, ⟨?_, hus, hrs, k _ _ nsw D12.hs, ?_, k _ _ ntw D12.ht, ?_, ?_, ev'⟩⟩
      · rw [hsz2, List.length_append, List.length_singleton]
        omega
      · intro v hv
        rcases List.mem_append.mp hv with hv | hv
        · exact hit v hv
        · rw [List.mem_singleton.mp hv]
          rfl
      · refine List.Perm.trans ?_ pm
        rw [snm_append, List.append_assoc]
        refine List.Perm.append_left _ ((List.perm_append_comm_assoc _ _ _).trans (List.Perm.append_left _ (List.Perm.append_left _ ?_)))
        exact (snm_nst _ _ _).trans ((List.reverse_perm _).flatMap_right _)
      · intro i hi
        rcases List.mem_append.mp hi with hi | hi
        · obtain ⟨g1, g2, g3⟩ := hok i (List.mem_append_left _ hi)
          exact ⟨g1, g2, by rw [List.length_append]; omega⟩
        · simp only [nst, List.mem_flatMap, List.mem_reverse, List.mem_map] at hi
          obtain ⟨b1, hb1, s2, hs2, rfl⟩ := hi
          refine ⟨shL_mem (blks_sh hok1.1 b1 hb1) hs2, okL_mem (blks_ok hok1.2.1 b1 hb1) hs2, ?_⟩
          have h3 : L.length + M.length ≤ tk.length := hok1.2.2
          show (s1.nL L).length + (s1.nM M).length ≤ _
          cases s1 <;> simp only [Stm.nL, Stm.nM, Stm.hds, List.length_append, List.length_singleton, List.length_nil] <;> omega
  · walk_at "rd"
    exact ⟨_, .inl ⟨SqL.of Z.hs, fun l hl => q _ _ (Z.ev.trans (Ev.new hl _))⟩⟩
theorem tst_sz : ∀ (t : Tst), t.enc.sz ≤ 5 * t.sz
  | .p3 w x y => by simp [Tst.enc, Tst.sz, D.sz, D.szL]
  | .mk m => by simp [Tst.enc, Tst.sz, D.sz, D.szL]
  | .no t => by
    have := tst_sz t
    simp [Tst.enc, Tst.sz, D.sz, D.szL]
    omega
  | .bi w a b => by
    have := tst_sz a
    have := tst_sz b
    simp [Tst.enc, Tst.sz, D.sz, D.szL]
    omega
mutual
theorem stm_sz : ∀ (s : Stm), s.sh → s.enc.sz ≤ s.wt
  | .loop x w b, h => by
    unfold Stm.sh at h
    have := encL_sz b h.2.2
    simp [Stm.enc, Stm.wt, D.sz, D.szL]
    omega
  | .mark x b, h => by
    unfold Stm.sh at h
    have := encL_sz b h.2
    simp [Stm.enc, Stm.wt, D.sz, D.szL]
    omega
  | .cond t a b, h => by
    unfold Stm.sh at h
    have := encL_sz a h.2.2.1
    have := encL_sz b h.2.2.2
    have := tst_sz t
    have := sz32 h.2.1
    simp [Stm.enc, Stm.wt, D.sz, D.szL]
    omega
  | .leaf w x, h => by simp [Stm.enc, Stm.wt, D.sz, D.szL]
theorem encL_sz : ∀ (b : List Stm), shL b → D.szL (encL b) ≤ wtL b
  | [], h => by simp [encL, wtL, D.szL]
  | s :: r, h => by
    have k := shL_cons.mp h
    have := stm_sz s k.1
    have := encL_sz r k.2
    simp only [encL, wtL, D.szL]
    omega
end
theorem Drawn.sz {al pr : Str} {b : List Stm} (h : Drawn al pr b) : (D.n (encL b)).sz ≤ 10000050 := by
  have := encL_sz b h.sh
  have := h.wt
  unfold D.sz
  omega
theorem tp_ins {H : Hp} {o C dx : Addr} {fs : List (Str × V)} {x : HO} (h : H o = some (.ins C dx fs)) : Tp H (upd H o x) := Tp.upd fun vs e => by rw [h] at e; cases e
def PCls (K : PySem.W.Frag) (C : Addr) : Prop := Cls K C ∧ NoAttr K C "reads" ∧ NoAttr K C "prints" ∧ NoAttr K C "block" ∧ NoAttr K C "spots"
def spInit (K : PySem.W.Frag) : Sp := fun vs H Q _ => ∃ (o C dx : Addr) (v : V) (b : List Stm) (al pr : Str), vs = [.ref o, .str al, .str pr, v] ∧ PCls K C ∧ H o = some (.ins C dx []) ∧ Rep false H v (.n (encL b)) ∧ Drawn al pr b ∧ ∀ (vb vp : V) (H' : Hp), H' o = some (.ins C dx [(Str.ofString "reads", .str al), (Str.ofString "prints", .str pr), (Str.ofString "block", vb), (Str.ofString "spots", vp)]) → Rep true H' vb (.n (encL b)) → (∀ a u, a ≠ o → H a = some u → H' a = some u) → Q .non H'
theorem ok_init (F : Fun K "__init__" "Program.__init__" s_ProgramU_initU f fd) (T : Gw mg Ra Aa Ba Ca) (C_check_alphabet : Cl P w K mg base "check_alphabet" 3 ["alphabet"] spCalph) (C_frozen : Cl P w K mg base "frozen" 1 ["value"] spFz) (C_checked_spots : Cl P w K mg base "checked_spots" 6 ["reads", "prints", "block"] spSpots) : FnOk P w K mg base CX0 7 f fd ["self", "reads", "prints", "block"] (spInit K) := by
  refine F.ok sc_ProgramU_initU (fun vs H Q E h => ?_) (fun cdv A outer s H vs Q E hr h => ?_)
  · obtain ⟨o, C, dx, v, b, al, pr, rfl, _⟩ := h
    rfl
  obtain ⟨o, C, dx, v, b, al, pr, rfl, cC, ho, hR, hD, q⟩ := h
  refine ⟨_, (pss_cons (ps_expr (pe_call C_check_alphabet.ok (hr.mono (by omega)) (by rfl) C_check_alphabet.mg C_check_alphabet.kp C_check_alphabet.b .nil pass0 (pa_cons (pv 1) pa_nil)))
        (pss_cons (ps_expr (pe_call C_check_alphabet.ok (hr.mono (by omega)) (by rfl) C_check_alphabet.mg C_check_alphabet.kp C_check_alphabet.b .nil pass0 (pa_cons (pv 2) pa_nil)))
        (pss_cons (ps_fld (pv 0) (pv 1) rfl)
        (pss_cons (ps_fld (pv 0) (pv 2) rfl)
        (pss_cons (ps_fld (pv 0) (pe_call C_frozen.ok (hr.mono (by omega)) (by rfl) C_frozen.mg C_frozen.kp C_frozen.b .nil pass0 (pa_cons (pv 3) pa_nil)) rfl)
        (pss_one (ps_fld (pv 0) (pe_call C_checked_spots.ok (hr.mono (by omega)) (by rfl) C_checked_spots.mg C_checked_spots.kp C_checked_spots.b .nil pass0 (pa_cons (pv 1) (pa_cons (pv 2) (pa_cons (pe_fld (pv 0) rfl) pa_nil)))) rfl))))))), ?_⟩
  walk_at "rd"
  refine ⟨al, rfl, hD.hal, fun H1 e1 => ⟨pr, rfl, hD.hpr, fun H2 e2 => ?_⟩⟩
  have e12 := (e1.trans e2).s0
  have ho2 := e12 _ _ ho
  unfold sFld
  walk_at "rd"
  refine ⟨C, dx, [], ho2, cC.1, cC.2.1, by decide, C, dx, _, upd_same, cC.1, cC.2.2.1, Nat.lt_of_le_of_lt (length_putF _ _ _) (by simp), ?_⟩
  have t1 : Tp H2 (upd H2 o (.ins C dx (putF (Str.ofString "reads") (.str al) []))) := tp_ins ho2
  have h1 : (upd H2 o (.ins C dx (putF (Str.ofString "reads") (.str al) []))) o = some (.ins C dx (putF (Str.ofString "reads") (.str al) [])) := upd_same
  have k1 : ∀ b u, b ≠ o → H b = some u → (upd H2 o (.ins C dx (putF (Str.ofString "reads") (.str al) []))) b = some u := fun b u hb e => (upd_ne hb).trans (e12 _ _ e)
  generalize upd H2 o (.ins C dx (putF (Str.ofString "reads") (.str al) [])) = U1 at *
  have h2 : (upd U1 o (.ins C dx (putF (Str.ofString "prints") (.str pr) (putF (Str.ofString "reads") (.str al) [])))) o = some (.ins C dx (putF (Str.ofString "prints") (.str pr) (putF (Str.ofString "reads") (.str al) []))) := upd_same
  have k2 : ∀ b u, b ≠ o → H b = some u → (upd U1 o (.ins C dx (putF (Str.ofString "prints") (.str pr) (putF (Str.ofString "reads") (.str al) [])))) b = some u := fun b u hb e => (upd_ne hb).trans (k1 _ _ hb e)
  generalize upd U1 o (.ins C dx (putF (Str.ofString "prints") (.str pr) (putF (Str.ofString "reads") (.str al) []))) = U2 at *
  have hv2 : Rep false U2 v (.n (encL b)) := Rep.keep (fun a xs e => k2 _ _ (fun z => by rw [z, ho] at e; cases e) e) (fun _ a xs _ e => k2 _ _ (fun z => by rw [z, ho] at e; cases e) e) _ _ hR
  refine ⟨v, _, rfl, hv2, hD.fit, hD.sz, fun vb H3 e3 rb => ?_⟩
  have h3 := e3.s0 _ _ h2
  refine ⟨C, dx, _, h3, cC.1, cC.2.2.2.1, Nat.lt_of_le_of_lt (length_putF _ _ _) (Nat.lt_of_le_of_lt (Nat.add_le_add_right (length_putF _ _ _) 1) (by simp)), C, dx, _, upd_same, cC.1, cC.2.2.2.1, vb, rfl, ?_⟩
  have t4 : Tp H3 (upd H3 o (.ins C dx (putF (Str.ofString "block") vb (putF (Str.ofString "prints") (.str pr) (putF (Str.ofString "reads") (.str al) []))))) := tp_ins h3
  have h4 : (upd H3 o (.ins C dx (putF (Str.ofString "block") vb (putF (Str.ofString "prints") (.str pr) (putF (Str.ofString "reads") (.str al) []))))) o = some _ := upd_same
  have k4 : ∀ b u, b ≠ o → H b = some u → (upd H3 o (.ins C dx (putF (Str.ofString "block") vb (putF (Str.ofString "prints") (.str pr) (putF (Str.ofString "reads") (.str al) []))))) b = some u := fun b u hb e => (upd_ne hb).trans (e3.s0 _ _ (k2 _ _ hb e))
  generalize upd H3 o (.ins C dx (putF (Str.ofString "block") vb (putF (Str.ofString "prints") (.str pr) (putF (Str.ofString "reads") (.str al) [])))) = U4 at *
  refine ⟨vb, b, al, pr, rfl, rb.tp t4, hD, fun vp H5 e5 => ?_⟩
  have h5 := e5.s0 _ _ h4
  refine ⟨C, dx, _, h5, cC.1, cC.2.2.2.2, Nat.lt_of_le_of_lt (length_putF _ _ _) (Nat.lt_of_le_of_lt (Nat.add_le_add_right (length_putF _ _ _) 1) (Nat.lt_of_le_of_lt (Nat.add_le_add_right (Nat.add_le_add_right (length_putF _ _ _) 1) 1) (by simp))), ?_⟩
  exact q vb vp _ upd_same (((rb.tp t4).ev e5).tp (tp_ins h5)) fun b u hb e => (upd_ne hb).trans (e5.s0 _ _ (k4 _ _ hb e))
end
end TW
/-! W1 -/
set_option Elab.async false
set_option linter.all false
set_option maxRecDepth 100000
set_option maxHeartbeats 4000000
namespace TW
open PySem L2 TL
local macro_rules | `(tactic| walk_at "rd") => `(tactic| simp only [tSeq, tAsg, tOp, tUn, tVar, tCB, tCons, tNil, tRet, tDrop, gName, gSub, gTup, gCons, gNil, rI, rI0, rU, rIxL, rIxT, rIxS, rSetL, tC, L2.start, cxOf, tIfS, tIf, tTest, tB, tAnd, tOr, tNot, tAndV, tOrV, tNotV, tChain, tTup, tLst, tCall, tNext, tNever,
  rEq, rNe, tBM, tBM0, rCat, rRep, rIn, tSl, rSlL, rSlT, rSlS, rAll, rAny, rSortedS, rAppend, rPop, rExtend, tyV, tFld, tM1, tJs, tRev, tKGet, rRvL, rRvT, rRvS, rExtendT, rLstS, rRepS, tNoPart, tPart, tYes, StX.tStar, wipe, tFmtS, rIxD, tOrT, tMake, tMakeK, tCallN,
  List.map, List.length, List.replicate, List.append, List.nil_append, List.cons_append, List.append_nil, List.set, Nat.zero_add, Nat.add_zero, Nat.reduceAdd, Nat.reduceSub, List.getElem?_cons_zero, List.getElem?_cons_succ, List.length_cons, List.length_nil, List.set_cons_zero, List.set_cons_succ, List.getElem?_nil, Option.some.injEq, V.ref.injEq, V.int.injEq, V.str.injEq, V.bl.injEq, List.cons.injEq, and_true, true_and, exists_eq_left, exists_eq_left', exists_eq', exists_eq, exists_and_left, exists_const, reduceCtorEq, false_or, or_false, true_or, or_true, false_and, and_false, and_assoc, if_true, if_false, Bool.false_eq_true, Bool.true_eq_false])
local macro_rules | `(tactic| walk_at "rdd") => `(tactic| simp only [tSeq, tAsg, tOp, tUn, tVar, tCB, tCons, tNil, tRet, tDrop, gName, gSub, gTup, gCons, gNil, rI, rI0, rU, rIxL, rIxT, rIxS, rSetL, tC, L2.start, cxOf, tIfS, tIf, tTest, tB, tAnd, tOr, tNot, tAndV, tOrV, tNotV, tChain, tTup, tLst, tCall, tNext, tNever,
  rEq, rNe, tBM, tBM0, rCat, rRep, rIn, tSl, rSlL, rSlT, rSlS, rAll, rAny, rSortedS, rAppend, rPop, rExtend, tyV, tFld, tM1, tJs, tRev, tKGet, rRvL, rRvT, rRvS, rExtendT, rLstS, rRepS, tNoPart, tPart, tYes, StX.tStar, wipe, tFmtS, rIxD, tOrT, tMake, tMakeK, tCallN, tFor, tWhile, tLc, iList, iTup, iSeq, iStr, iRng1, iRng2, iEnumS, iZipS,
  List.map, List.length, List.replicate, List.append, List.nil_append, List.cons_append, List.append_nil, List.set, Nat.zero_add, Nat.add_zero, Nat.reduceAdd, Nat.reduceSub, List.getElem?_cons_zero, List.getElem?_cons_succ, List.length_cons, List.length_nil, List.set_cons_zero, List.set_cons_succ, List.getElem?_nil, Option.some.injEq, V.ref.injEq, V.int.injEq, V.str.injEq, V.bl.injEq, List.cons.injEq, and_true, true_and, exists_eq_left, exists_eq_left', exists_eq', exists_eq, exists_and_left, exists_const, reduceCtorEq, false_or, or_false, true_or, or_true, false_and, and_false, and_assoc, if_true, if_false, Bool.false_eq_true, Bool.true_eq_false])
theorem tl_e : tl Str.empty = [] := rfl
section
variable {P : Program} {w : World} {K : PySem.W.Frag} {mg : Str → Option Value} {base : Heap} {f g : Addr} {fd gd : FuncData} {Ra Aa Ba Ca : Addr}
local macro_rules | `(tactic| walk_at "len") => `(tactic| (simp only [len_tl, tl_append, tl_e, List.length_append, List.length_map, List.length_cons, List.length_nil, q1, q2, q3, q4, q5, q6, q7, q8, q9, q10, q11, szl] at *; omega))
inductive WI where
  | te (t : Tst)
  | ze (z : Str)
def WI.enc : WI → D
  | .te t => t.enc
  | .ze z => .s z
def WI.tx : WI → List Nat
  | .te t => t.tx
  | .ze z => tl z
def Tst.wz : Tst → Nat
  | .no t => t.wz + 2
  | .bi _ a b => a.wz + b.wz + 4
  | _ => 1
def WI.wz : WI → Nat
  | .te t => t.wz
  | .ze _ => 1
def wzs (l : List WI) : Nat := (l.map WI.wz).sum
theorem wzs_append (a b : List WI) : wzs (a ++ b) = wzs a + wzs b := by simp [wzs]
theorem wz_sz : ∀ (t : Tst), t.wz + 3 ≤ 4 * t.sz
  | .p3 w x y => by simp [Tst.wz, Tst.sz]
  | .mk m => by simp [Tst.wz, Tst.sz]
  | .no t => by have := wz_sz t; simp only [Tst.wz, Tst.sz]; omega
  | .bi w a b => by
    have := wz_sz a
    have := wz_sz b
    simp only [Tst.wz, Tst.sz]; omega
theorem wz_pos (t : Tst) : 1 ≤ t.wz := by cases t <;> simp only [Tst.wz] <;> omega
theorem wzs_len : ∀ (l : List WI), l.length ≤ wzs l
  | [] => Nat.zero_le _
  | t :: r => by
    have := wzs_len r
    have : 1 ≤ t.wz := by cases t with | te t => exact wz_pos t | ze z => exact Nat.le_refl _
    simp [wzs] at *
    omega
def WI.ok : WI → Prop
  | .te t => t.sh ∧ t.dep ≤ 4
  | .ze _ => True
def Pw (K : PySem.W.Frag) (w : World) (Ca : Addr) : Prop := KDct K w Ca (Str.ofString "before") (.str (Str.ofString "before")) ∧ KDct K w Ca (Str.ofString "same") (.str (Str.ofString "at"))
def spPtest : Sp := fun vs H Q _ => ∃ (v : V) (t : Tst), vs = [v] ∧ Rep true H v t.enc ∧ t.sh ∧ t.dep ≤ 4 ∧ ∀ (z : Str) (H' : Hp), Ev [] H H' → tl z = t.tx → Q (.str z) H'
theorem ok_ptest (F : Fun K "written_test" "written_test" s_written_test f fd) (T : Gw mg Ra Aa Ba Ca) (hP : Pw K w Ca) : FnOk P w K mg base CX0 1 f fd ["test"] spPtest := by
  refine F.ok sc_written_test (fun vs H Q E h => ?_) (fun cdv A outer s H vs Q E hr h => ?_)
  · obtain ⟨v, t, rfl, _⟩ := h
    rfl
  obtain ⟨v, t, rfl, hR, hs, hd, q⟩ := h
  refine ⟨_, (pss_cons (ps_set (i := 1) sc_written_test.nd rfl (by first | exact Or.inl rfl | exact Or.inr rfl) (pe_lst pa_nil))
        (pss_cons (ps_set (i := 2) sc_written_test.nd rfl (by first | exact Or.inl rfl | exact Or.inr rfl) (pe_lst (pa_cons (pv 0) pa_nil)))
        (pss_cons (ps_while PassesOwn.never (pt_truth (pv 2) (by intro _; rfl)) (pss_cons (ps_set (i := 3) sc_written_test.nd rfl (by first | exact Or.inl rfl | exact Or.inr rfl) (pe_bm0 PySem.F.plainAttrs_list PySem.F.slot_list_pop PySem.F.type_list_pop mt_pop (pv 2)))
          (pss_one (ps_if (pt_val (pe_callB (r := rIsi K) (id := "isinstance") call_isi (by rfl) T.b_isinstance (by decide +kernel) (pa_cons (pv 3) (pa_cons (pe_bltn (v := .ty "str") (by rfl) T.b_str (by decide +kernel) rfl) pa_nil)))) (pss_one (ps_expr (pe_bm PySem.F.plainAttrs_list PySem.F.slot_list_append PySem.F.type_list_append mt_append (pv 1) (pa_cons (pv 3) pa_nil)))) (pss_one (ps_if (pt_cmpR op_eq (pe_ix (r := rIxT K) ix_tup (pv 3) pe_int (fun _ _ => rfl)) pe_str (nomark _)) (pss_one (ps_expr (pe_bm PySem.F.plainAttrs_list PySem.F.slot_list_extend PySem.F.type_list_extend mt_extend (pv 2) (pa_cons (pe_lst (pa_cons (pe_ix (r := rIxT K) ix_tup (pv 3) pe_int (fun _ _ => rfl)) (pa_cons pe_str pa_nil))) pa_nil)))) (pss_one (ps_if (pt_cmpR op_in_seq (pe_ix (r := rIxT K) ix_tup (pv 3) pe_int (fun _ _ => rfl)) (pe_tup (pa_cons pe_str (pa_cons pe_str pa_nil))) (by rfl)) (pss_one (ps_expr (pe_bm PySem.F.plainAttrs_list PySem.F.slot_list_extend PySem.F.type_list_extend mt_extend (pv 2) (pa_cons (pe_lst (pa_cons pe_str (pa_cons (pe_ix (r := rIxT K) ix_tup (pv 3) pe_int (fun _ _ => rfl)) (pa_cons (pe_joined (.cons pe_str (.cons (pe_fmtS (pe_ix (r := rIxT K) ix_tup (pv 3) pe_int (fun _ _ => rfl))) (.cons pe_str .nil)))) (pa_cons (pe_ix (r := rIxT K) ix_tup (pv 3) pe_int (fun _ _ => rfl)) (pa_cons pe_str pa_nil)))))) pa_nil)))) (pss_one (ps_if (pt_cmpR op_eq (pe_ix (r := rIxT K) ix_tup (pv 3) pe_int (fun _ _ => rfl)) pe_str (nomark _)) (pss_one (ps_expr (pe_bm PySem.F.plainAttrs_list PySem.F.slot_list_append PySem.F.type_list_append mt_append (pv 1) (pa_cons (pe_ix (r := rIxT K) ix_tup (pv 3) pe_int (fun _ _ => rfl)) pa_nil)))) (pss_one (ps_if (pt_cmpR op_eq (pe_ix (r := rIxT K) ix_tup (pv 3) pe_int (fun _ _ => rfl)) pe_str (nomark _)) (pss_one (ps_expr (pe_bm PySem.F.plainAttrs_list PySem.F.slot_list_append PySem.F.type_list_append mt_append (pv 1) (pa_cons (pe_joined (.cons (pe_fmtS (pe_ix (r := rIxT K) ix_tup (pv 3) pe_int (fun _ _ => rfl))) (.cons pe_str (.cons (pe_fmtS (pe_ix (r := rIxT K) ix_tup (pv 3) pe_int (fun _ _ => rfl))) .nil)))) pa_nil)))) (pss_one (ps_expr (pe_bm PySem.F.plainAttrs_list PySem.F.slot_list_append PySem.F.type_list_append mt_append (pv 1) (pa_cons (pe_joined (.cons (pe_fmtS (pe_ix (r := rIxT K) ix_tup (pv 3) pe_int (fun _ _ => rfl))) (.cons pe_str (.cons (pe_fmtS (pe_ix ix_kdict (pe_glob (v := V.ref _) (by rfl) T.g_PLACE_WORDS rfl) (pe_ix (r := rIxT K) ix_tup (pv 3) pe_int (fun _ _ => rfl)) (fun _ _ => rfl))) (.cons pe_str (.cons (pe_fmtS (pe_ix (r := rIxT K) ix_tup (pv 3) pe_int (fun _ _ => rfl))) .nil)))))) pa_nil))))))))))))))))
        (pss_one (ps_ret (pe_join pe_str (pv 1))))))), ?_⟩
  walk_at "rd"
  have htx := tx_short hs hd
  refine ⟨by decide, fun pp hpp => ⟨by decide, fun wp hwp => ?_⟩⟩
  have e1 := Ev.new (l := []) hpp (.lst [])
  have fwp := e1.free hwp
  have npw : pp ≠ wp := ne_of_none upd_same hwp
  refine whileL (fun m σ H' => ∃ (st : List WI) (us : List V) (zs : List Str) (c : Option V), σ = [some v, some (.ref pp), some (.ref wp), c] ∧ m = wzs st ∧ m + zs.length ≤ 124 ∧ H' wp = some (.lst us) ∧ RepL true H' us (st.map WI.enc) ∧ (∀ x ∈ st, x.ok) ∧ H' pp = some (.lst (zs.map V.str)) ∧ (zs.map tl).flatten ++ st.reverse.flatMap WI.tx = t.tx ∧ Ev [] H H') ?_ ?_
  · have := wz_sz t
    have := sz32 hd
    exact ⟨_, [.te t], [v], [], none, rfl, rfl, by simp [wzs, WI.wz]; omega, upd_same, (RepL.one hR).ev (e1.trans (Ev.new hwp _)), by simpa [WI.ok] using ⟨hs, hd⟩, (upd_ne npw).trans upd_same, by simp [WI.tx], e1.trans (Ev.new hwp _)⟩
  rintro m σ H' ⟨st, us, zs, c, rfl, rfl, hm, hl, hL, hok, hpl, htext, ev⟩
  refine ⟨wp, us, rfl, hl, ?_, fun hnil => ?_⟩
  · rintro ys y rfl
    obtain ⟨st, i1, rfl, hL1, hy⟩ := hL.snocM
    have ev1 : Ev [] H (upd H' wp (.lst ys)) := ev.over fwp
    have hy1 : Rep true (upd H' wp (.lst ys)) y i1.enc := hy.updT hl
    have hL2 := hL1.updT (o := .lst ys) hl
    have hw1 : (upd H' wp (.lst ys)) wp = some (.lst ys) := upd_same
    have hp1 : (upd H' wp (.lst ys)) pp = some (.lst (zs.map V.str)) := (upd_ne npw).trans hpl
    have hsum : wzs (st ++ [i1]) = wzs st + i1.wz := by rw [wzs_append]; simp [wzs]
    have hi1 := hok i1 (by simp)
    rw [hsum] at hm
    rw [List.reverse_append, List.reverse_singleton, List.flatMap_append, List.flatMap_singleton, ← List.append_assoc] at htext
    have hokr : ∀ x ∈ st, x.ok := fun x hx => hok x (List.mem_append_left _ hx)
    have hyl : ys.length = st.length := by rw [hL1.len, List.length_map]
    have hstl : st.length ≤ wzs st := wzs_len st
    walk_at "rd"
    refine ⟨.inl ⟨_, SqL.of hl⟩, _, hl, y, last_of ys _, ?_⟩
    rw [List.dropLast_concat]
    generalize upd H' wp (.lst ys) = H1 at *
    cases i1 with
    | ze z =>
      cases Rep.strIff.mp hy1
      refine isi_str rfl ⟨true, rfl, ?_⟩
      rw [if_pos rfl]
      refine ⟨.inl ⟨_, SqL.of hp1⟩, _, hp1, by rw [List.length_map, szl]; omega, wzs st, by rw [hsum]; simp [WI.wz], st, rfl, ys, zs ++ [z], ?_, (upd_ne npw.symm).trans hw1, hL2.updT hp1, hokr, by rw [upd_same, snoc_map], ?_, ev1.over hpp⟩
      · have : WI.wz (.ze z) = 1 := rfl
        rw [List.length_append, List.length_singleton]
        omega
      · simpa [WI.tx] using htext
    | te t1 =>
      have hR1 : Rep true H1 y t1.enc := hy1
      rw [enc_eq] at hR1
      obtain ⟨a1, us1, rfl, ha1, hLa⟩ := repT hR1
      refine isi_tup ha1 rfl ⟨false, rfl, ?_⟩
      rw [if_neg (by decide)]
      walk_at "rd"
      have hwz : WI.wz (.te t1) = t1.wz := rfl
      have ht1 := tx_short hi1.1 hi1.2
      obtain ⟨hs1, hd1⟩ := hi1
      cases t1 with
      | no t2 =>
        obtain ⟨x0, r0, rfl, h0, hL0⟩ := RepL.consIff.mp hLa
        cases RepL.nilIff.mp hL0
        have hw2 : WI.wz (.te (.no t2)) = t2.wz + 2 := rfl
        have hd2 : t2.dep + 1 ≤ 4 := hd1
        refine ⟨_, SqT.of ha1, _, at0, eqT ⟨.inl ⟨_, SqL.of hw1⟩, _, SqT.of ha1, _, at1, by decide, fun p2 hp2 => ⟨_, (upd_ne (ne_of_none hw1 hp2)).trans hw1, _, upd_same, ?_, wzs (st ++ [.te t2, .ze (Str.ofString "not ")]), ?_, st ++ [.te t2, .ze (Str.ofString "not ")], rfl, _, zs, ?_, upd_same, ?_, ?_, (upd_ne npw).trans ((upd_ne (ne_of_none hp1 hp2)).trans hp1), ?_, (ev1.trans (Ev.new hp2 _)).over fwp⟩⟩⟩
        · simp only [List.length_cons, List.length_nil, szl]
          omega
        · rw [wzs_append, hsum, hw2]
          simp [wzs, WI.wz]
        · rw [wzs_append]
          simp only [wzs, WI.wz, List.map_cons, List.map_nil, List.sum_cons, List.sum_nil] at *
          omega
        · rw [List.map_append]
          exact ((hL2.updN hp2).append (.cons (h0.same (same_new hp2 _)) (.one (Rep.strIff.mpr rfl)))).updT ((upd_ne (ne_of_none hw1 hp2)).trans hw1)
        · intro x hx
          rcases List.mem_append.mp hx with hx | hx
          · exact hokr x hx
          · simp only [List.mem_cons, List.not_mem_nil, or_false] at hx
            rcases hx with rfl | rfl
            · exact ⟨hs1, by omega⟩
            · trivial
        · rw [← htext]
          simp [WI.tx, Tst.tx]
      | bi x t2 t3 =>
        obtain ⟨x0, r0, rfl, h0, hL0⟩ := RepL.consIff.mp hLa
        obtain ⟨x1, r1, rfl, h1, hL1'⟩ := RepL.consIff.mp hL0
        cases RepL.nilIff.mp hL1'
        have hw2 : WI.wz (.te (.bi x t2 t3)) = t2.wz + t3.wz + 4 := rfl
        have hd2 : max t2.dep t3.dep + 1 ≤ 4 := hd1
        have hx3 := hs1.1.len
        have n1 : x ≠ Str.ofString "not" := by rcases hs1.1 with rfl | rfl <;> decide +kernel
        have hxin : x ∈ ["and", "or"].map Str.ofString := by rcases hs1.1 with rfl | rfl <;> simp
        refine ⟨_, SqT.of ha1, _, at0, neT n1 ⟨_, SqT.of ha1, _, at0, by decide, fun p2 hp2 => ⟨_, .inr (SqT.of upd_same), rfl, by rfl, ?_⟩⟩⟩
        have hin : inV (V.str x) [.str (Str.ofString "and"), .str (Str.ofString "or")] = decide (x ∈ ["and", "or"].map Str.ofString) := inV_strs x (["and", "or"].map Str.ofString)
        show if inV (V.str x) _ = true then _ else _
        rw [hin, if_pos (decide_eq_true hxin)]
        have m2 := same_new hp2 (.tup [.str (Str.ofString "and"), .str (Str.ofString "or")])
        have ha2 := m2 _ _ ha1
        have hw2' := m2 _ _ hw1
        have hp2' := m2 _ _ hp1
        have hL3 := hL2.same m2
        have h02 := h0.same m2
        have h12 := h1.same m2
        have ev2 := ev1.trans (Ev.of_same m2)
        generalize upd H1 p2 (.tup [.str (Str.ofString "and"), .str (Str.ofString "or")]) = H2 at *
        refine ⟨.inl ⟨_, SqL.of hw2'⟩, _, SqT.of ha2, _, at2, ?_, _, SqT.of ha2, _, at0, x, rfl, ?_, ?_, ?_, _, SqT.of ha2, _, at1, by decide, fun p3 hp3 => ⟨_, (upd_ne (ne_of_none hw2' hp3)).trans hw2', _, upd_same, ?_, wzs (st ++ [.ze (Str.ofString ")"), .te t3, .ze (Str.empty ++ Str.ofString " " ++ x ++ Str.ofString " "), .te t2, .ze (Str.ofString "(")]), ?_, st ++ [.ze (Str.ofString ")"), .te t3, .ze (Str.empty ++ Str.ofString " " ++ x ++ Str.ofString " "), .te t2, .ze (Str.ofString "(")], rfl, _, zs, ?_, upd_same, ?_, ?_, (upd_ne npw).trans ((upd_ne (ne_of_none hp2' hp3)).trans hp2'), ?_, (ev2.trans (Ev.new hp3 _)).over fwp⟩⟩
        · walk_at "len"
        · walk_at "len"
        · walk_at "len"
        · walk_at "len"
        · simp only [List.length_cons, List.length_nil, szl]
          omega
        · rw [wzs_append, hsum, hw2]
          simp [wzs, WI.wz]
          omega
        · rw [wzs_append]
          simp only [wzs, WI.wz, List.map_cons, List.map_nil, List.sum_cons, List.sum_nil] at *
          omega
        · rw [List.map_append]
          exact ((hL3.updN hp3).append (.cons (Rep.strIff.mpr rfl) (.cons (h12.same (same_new hp3 _)) (.cons (Rep.strIff.mpr rfl) (.cons (h02.same (same_new hp3 _)) (.one (Rep.strIff.mpr rfl))))))).updT ((upd_ne (ne_of_none hw2' hp3)).trans hw2')
        · intro z hz
          rcases List.mem_append.mp hz with hz | hz
          · exact hokr z hz
          · simp only [List.mem_cons, List.not_mem_nil, or_false] at hz
            rcases hz with rfl | rfl | rfl | rfl | rfl
            · trivial
            · exact ⟨hs1.2.2, by omega⟩
            · trivial
            · exact ⟨hs1.2.1, by omega⟩
            · trivial
        · rw [← htext]
          simp [WI.tx, Tst.tx, tl_append, tl_e]
      | mk x =>
        obtain ⟨x0, r0, rfl, h0, hL0⟩ := RepL.consIff.mp hLa
        cases Rep.strIff.mp h0
        cases RepL.nilIff.mp hL0
        refine ⟨_, SqT.of ha1, _, at0, neT (show Str.ofString "mark" ≠ _ by decide +kernel) ⟨_, SqT.of ha1, _, at0, by decide, fun p2 hp2 => ⟨_, .inr (SqT.of upd_same), rfl, by rfl, ?_⟩⟩⟩
        have hin : inV (V.str (Str.ofString "mark")) [.str (Str.ofString "and"), .str (Str.ofString "or")] = decide (Str.ofString "mark" ∈ ["and", "or"].map Str.ofString) := inV_strs _ (["and", "or"].map Str.ofString)
        show if inV (V.str (Str.ofString "mark")) _ = true then _ else _
        rw [hin, if_neg (by decide +kernel)]
        have m2 := same_new hp2 (.tup [.str (Str.ofString "and"), .str (Str.ofString "or")])
        have ha2 := m2 _ _ ha1
        have hp2' := m2 _ _ hp1
        have hw2' := m2 _ _ hw1
        have hL3 := hL2.same m2
        have ev2 := ev1.trans (Ev.of_same m2)
        generalize upd H1 p2 (.tup [.str (Str.ofString "and"), .str (Str.ofString "or")]) = H2 at *
        have hw2 : WI.wz (.te (.mk x)) = 1 := rfl
        refine ⟨_, SqT.of ha2, _, at0, eqT ⟨.inl ⟨_, SqL.of hp2'⟩, _, SqT.of ha2, _, at1, _, hp2', by rw [List.length_map, szl]; omega, wzs st, by rw [hsum]; omega, st, rfl, ys, zs ++ [x], ?_, (upd_ne npw.symm).trans hw2', hL3.updT hp2', hokr, by rw [upd_same, snoc_map], ?_, ev2.over hpp⟩⟩
        · rw [List.length_append, List.length_singleton]
          omega
        · simpa [WI.tx, Tst.tx] using htext
      | p3 x y z =>
        obtain ⟨x0, r0, rfl, h0, hL0⟩ := RepL.consIff.mp hLa
        obtain ⟨x1, r1, rfl, h1, hL1'⟩ := RepL.consIff.mp hL0
        cases Rep.strIff.mp h0
        cases Rep.strIff.mp h1
        cases RepL.nilIff.mp hL1'
        have hx := hs1.1
        have aw := atW_len hx
        have hy20 := hs1.2.1
        have hz20 := hs1.2.2
        rw [len_tl] at hy20 hz20
        have n1 : x ≠ Str.ofString "not" := by rcases hx with rfl | rfl | rfl <;> decide +kernel
        have n2 : x ∉ ["and", "or"].map Str.ofString := by rcases hx with rfl | rfl | rfl <;> decide +kernel
        have n3 : x ≠ Str.ofString "mark" := by rcases hx with rfl | rfl | rfl <;> decide +kernel
        refine ⟨_, SqT.of ha1, _, at0, neT n1 ⟨_, SqT.of ha1, _, at0, by decide, fun p2 hp2 => ⟨_, .inr (SqT.of upd_same), rfl, by rfl, ?_⟩⟩⟩
        have hin : inV (V.str x) [.str (Str.ofString "and"), .str (Str.ofString "or")] = decide (x ∈ ["and", "or"].map Str.ofString) := inV_strs _ (["and", "or"].map Str.ofString)
        show if inV (V.str x) _ = true then _ else _
        rw [hin, if_neg (by rw [decide_eq_false n2]; decide)]
        have m2 := same_new hp2 (.tup [.str (Str.ofString "and"), .str (Str.ofString "or")])
        have ha2 := m2 _ _ ha1
        have hp2' := m2 _ _ hp1
        have hw2' := m2 _ _ hw1
        have hL3 := hL2.same m2
        have ev2 := ev1.trans (Ev.of_same m2)
        generalize upd H1 p2 (.tup [.str (Str.ofString "and"), .str (Str.ofString "or")]) = H2 at *
        have hw2 : WI.wz (.te (.p3 x y z)) = 1 := rfl
        refine ⟨_, SqT.of ha2, _, at0, neT n3 ⟨_, SqT.of ha2, _, at0, ?_⟩⟩
        have c_in : qs " in " = qs " " ++ (qs "in" ++ qs " ") := by decide +kernel
        have l_in : (qs " in ").length = 4 := by decide +kernel
        by_cases hxi : x = Str.ofString "in"
        · subst hxi
          refine eqT ⟨.inl ⟨_, SqL.of hp2'⟩, _, SqT.of ha2, _, at1, y, rfl, ?_, ?_, ?_, _, SqT.of ha2, _, at2, z, rfl, ?_, ?_, _, hp2', by rw [List.length_map, szl]; omega, wzs st, by rw [hsum]; omega, st, rfl, ys, zs ++ [Str.empty ++ y ++ Str.ofString " in " ++ z], ?_, (upd_ne npw.symm).trans hw2', hL3.updT hp2', hokr, by rw [upd_same, snoc_map], ?_, ev2.over hpp⟩
          · walk_at "len"
          · walk_at "len"
          · simp only [len_tl, tl_append, tl_e, List.length_append, List.length_nil, l_in, szl] at *; omega
          · walk_at "len"
          · simp only [len_tl, tl_append, tl_e, List.length_append, List.length_nil, l_in, szl] at *; omega
          · rw [List.length_append, List.length_singleton]
            omega
          · rw [← htext]
            have : atW (Str.ofString "in") = Str.ofString "in" := by decide +kernel
            simp [WI.tx, Tst.tx, tl_append, tl_e, this, c_in]
        · refine neT hxi ⟨.inl ⟨_, SqL.of hp2'⟩, _, SqT.of ha2, _, at1, y, rfl, ?_, ?_, ?_, _, SqT.of ha2, _, at0, x, rfl, .str (atW x), ?_, atW x, rfl, ?_, ?_, ?_, _, SqT.of ha2, _, at2, z, rfl, ?_, ?_, _, hp2', by rw [List.length_map, szl]; omega, wzs st, by rw [hsum]; omega, st, rfl, ys, zs ++ [Str.empty ++ y ++ Str.ofString " " ++ atW x ++ Str.ofString " " ++ z], ?_, (upd_ne npw.symm).trans hw2', hL3.updT hp2', hokr, by rw [upd_same, snoc_map], ?_, ev2.over hpp⟩
          · walk_at "len"
          · walk_at "len"
          · walk_at "len"
          · rcases hx with rfl | rfl | rfl
            · exact absurd rfl hxi
            · exact hP.1
            · exact hP.2
          · walk_at "len"
          · walk_at "len"
          · walk_at "len"
          · walk_at "len"
          · walk_at "len"
          · rw [List.length_append, List.length_singleton]
            omega
          · rw [← htext]
            simp [WI.tx, Tst.tx, tl_append, tl_e]
  · have hv0 : st = [] := by
      have := hL.len
      rw [hnil, List.length_map] at this
      exact List.length_eq_zero_iff.mp this.symm
    subst hv0
    rw [List.reverse_nil, List.flatMap_nil, List.append_nil] at htext
    walk_at "rd"
    have hlenz : (zs.map (·.length)).sum ≤ 873 := by
      have h1 := congrArg List.length htext
      rw [List.length_flatten, List.map_map] at h1
      have h2 : (zs.map (·.length)) = zs.map (List.length ∘ tl) := List.map_congr_left fun z _ => len_tl z
      rw [h2]
      omega
    refine ⟨zs, .inl (SqL.of hpl), ?_, q _ _ ev ?_⟩
    · have : (Str.ofString "").length = 0 := by decide +kernel
      rw [this]
      omega
    · rw [tl_join0]
      exact htext
def spPstm : Sp := fun vs H Q _ => ∃ (v : V) (s : Stm), vs = [v] ∧ Rep true H v s.enc ∧ s.sh ∧ ∀ (z : Str) (H' : Hp), Ev [] H H' → tl z = s.hd → Q (.str z) H'
theorem ok_pstm (F : Fun K "written_statement" "written_statement" s_written_statement f fd) (T : Gw mg Ra Aa Ba Ca) (C_written_test : Cl P w K mg base "written_test" 1 ["test"] spPtest) : FnOk P w K mg base CX0 2 f fd ["statement"] spPstm := by
  refine F.ok sc_written_statement (fun vs H Q E h => ?_) (fun cdv A outer s H vs Q E hr h => ?_)
  · obtain ⟨v, s, rfl, _⟩ := h
    rfl
  obtain ⟨v, s, rfl, hR, hs, q⟩ := h
  have hR1 := hR
  rw [senc_eq] at hR1
  obtain ⟨a, us, rfl, ha, hL⟩ := repT hR1
  refine ⟨_, (pss_cons (ps_if (pt_cmpR op_eq (pe_ix (r := rIxT K) ix_tup (pv 0) pe_int (fun _ _ => rfl)) pe_str (nomark _)) (pss_one (ps_ret (pe_joined (.cons pe_str (.cons (pe_fmtS (pe_ix (r := rIxT K) ix_tup (pv 0) pe_int (fun _ _ => rfl))) (.cons pe_str (.cons (pe_fmtS (pe_ix (r := rIxT K) ix_tup (pv 0) pe_int (fun _ _ => rfl))) (.cons pe_str .nil)))))))) pss_nil)
        (pss_cons (ps_if (pt_cmpR op_eq (pe_ix (r := rIxT K) ix_tup (pv 0) pe_int (fun _ _ => rfl)) pe_str (nomark _)) (pss_one (ps_ret (pe_joined (.cons pe_str (.cons (pe_fmtS (pe_ix (r := rIxT K) ix_tup (pv 0) pe_int (fun _ _ => rfl))) (.cons pe_str .nil)))))) pss_nil)
        (pss_cons (ps_if (pt_cmpR op_eq (pe_ix (r := rIxT K) ix_tup (pv 0) pe_int (fun _ _ => rfl)) pe_str (nomark _)) (pss_one (ps_ret (pe_joined (.cons pe_str (.cons (pe_fmtS (pe_call C_written_test.ok (hr.mono (by omega)) (by rfl) C_written_test.mg C_written_test.kp C_written_test.b .nil pass0 (pa_cons (pe_ix (r := rIxT K) ix_tup (pv 0) pe_int (fun _ _ => rfl)) pa_nil))) (.cons pe_str .nil)))))) pss_nil)
        (pss_one (ps_ret (pe_joined (.cons (pe_fmtS (pe_ix (r := rIxT K) ix_tup (pv 0) pe_int (fun _ _ => rfl))) (.cons pe_str (.cons (pe_fmtS (pe_ix (r := rIxT K) ix_tup (pv 0) pe_int (fun _ _ => rfl))) .nil))))))))), ?_⟩
  walk_at "rd"
  cases s with
  | loop x w1 b =>
    unfold Stm.sh at hs
    obtain ⟨x0, r0, rfl, h0, hL⟩ := RepL.consIff.mp hL
    obtain ⟨x1, r1, rfl, h1, hL⟩ := RepL.consIff.mp hL
    cases Rep.strIff.mp h0
    cases Rep.strIff.mp h1
    have hx := hs.1
    rw [len_tl] at hx
    have hw4 := hs.2.1.len
    refine ⟨_, SqT.of ha, _, at0, eqT ⟨?_, _, SqT.of ha, _, at1, x, rfl, ?_, ?_, ?_, _, SqT.of ha, _, at2, w1, rfl, ?_, ?_, ?_, q _ _ (Ev.refl _) ?_⟩⟩
    all_goals first
      | (simp only [tl_append, tl_e, Stm.hd, List.append_assoc, List.nil_append]; done)
      | (walk_at "len")
  | mark x b =>
    unfold Stm.sh at hs
    obtain ⟨x0, r0, rfl, h0, hL⟩ := RepL.consIff.mp hL
    cases Rep.strIff.mp h0
    have hx := hs.1
    rw [len_tl] at hx
    refine ⟨_, SqT.of ha, _, at0, neT n_mf ⟨_, SqT.of ha, _, at0, eqT ⟨?_, _, SqT.of ha, _, at1, x, rfl, ?_, ?_, ?_, q _ _ (Ev.refl _) ?_⟩⟩⟩
    all_goals first
      | (simp only [tl_append, tl_e, Stm.hd, List.append_assoc, List.nil_append]; done)
      | (walk_at "len")
  | cond t b1 b2 =>
    unfold Stm.sh at hs
    obtain ⟨x0, r0, rfl, h0, hL⟩ := RepL.consIff.mp hL
    have htx := tx_short hs.1 hs.2.1
    refine ⟨_, SqT.of ha, _, at0, neT n_if ⟨_, SqT.of ha, _, at0, neT n_im ⟨_, SqT.of ha, _, at0, eqT ⟨?_, _, SqT.of ha, _, at1, x0, t, rfl, h0, hs.1, hs.2.1, fun zt H1 e1 hzt => ⟨zt, rfl, ?_, ?_, ?_, q _ _ e1 ?_⟩⟩⟩⟩⟩
    · walk_at "len"
    · rw [← hzt, ← len_tl] at htx
      walk_at "len"
    · rw [← hzt, ← len_tl] at htx
      walk_at "len"
    · rw [← hzt, ← len_tl] at htx
      walk_at "len"
    · simp only [tl_append, tl_e, Stm.hd, List.append_assoc, List.nil_append, hzt]
  | leaf w1 x =>
    unfold Stm.sh at hs
    obtain ⟨x0, r0, rfl, h0, hL⟩ := RepL.consIff.mp hL
    cases Rep.strIff.mp h0
    have hw5 := hs.1.len
    have hx40 := hs.2
    rw [len_tl] at hx40
    have n1 : w1 ≠ Str.ofString "for" := by rcases hs.1 with rfl | rfl | rfl | rfl <;> decide +kernel
    have n2 : w1 ≠ Str.ofString "mark" := by rcases hs.1 with rfl | rfl | rfl | rfl <;> decide +kernel
    have n3 : w1 ≠ Str.ofString "if" := by rcases hs.1 with rfl | rfl | rfl | rfl <;> decide +kernel
    refine ⟨_, SqT.of ha, _, at0, neT n1 ⟨_, SqT.of ha, _, at0, neT n2 ⟨_, SqT.of ha, _, at0, neT n3 ⟨_, SqT.of ha, _, at0, w1, rfl, ?_, ?_, ?_, _, SqT.of ha, _, at1, x, rfl, ?_, ?_, q _ _ (Ev.refl _) ?_⟩⟩⟩⟩
    all_goals first
      | (simp only [tl_append, tl_e, Stm.hd, List.append_assoc, List.nil_append]; done)
      | (walk_at "len")
end
end TW
/-! W2 -/
set_option Elab.async false
set_option linter.all false
set_option maxRecDepth 100000
set_option maxHeartbeats 4000000
namespace TW
open PySem L2 TL
local macro_rules | `(tactic| walk_at "rd") => `(tactic| simp only [tSeq, tAsg, tOp, tUn, tVar, tCB, tCons, tNil, tRet, tDrop, gName, gSub, gTup, gCons, gNil, rI, rI0, rU, rIxL, rIxT, rIxS, rSetL, tC, L2.start, cxOf, tIfS, tIf, tTest, tB, tAnd, tOr, tNot, tAndV, tOrV, tNotV, tChain, tTup, tLst, tCall, tNext, tNever,
  rEq, rNe, tBM, tBM0, rCat, rRep, rIn, tSl, rSlL, rSlT, rSlS, rAll, rAny, rSortedS, rAppend, rPop, rExtend, tyV, tFld, tM1, tJs, tRev, tKGet, rRvL, rRvT, rRvS, rExtendT, rLstS, rRepS, tNoPart, tPart, tYes, StX.tStar, wipe, tFmtS, rIxD, tOrT, tMake, tMakeK, tCallN,
  List.map, List.length, List.replicate, List.append, List.nil_append, List.cons_append, List.append_nil, List.set, Nat.zero_add, Nat.add_zero, Nat.reduceAdd, Nat.reduceSub, List.getElem?_cons_zero, List.getElem?_cons_succ, List.length_cons, List.length_nil, List.set_cons_zero, List.set_cons_succ, List.getElem?_nil, Option.some.injEq, V.ref.injEq, V.int.injEq, V.str.injEq, V.bl.injEq, List.cons.injEq, and_true, true_and, exists_eq_left, exists_eq_left', exists_eq', exists_eq, exists_and_left, exists_const, reduceCtorEq, false_or, or_false, true_or, or_true, false_and, and_false, and_assoc, if_true, if_false, Bool.false_eq_true, Bool.true_eq_false])
local macro_rules | `(tactic| walk_at "rdd") => `(tactic| simp only [tSeq, tAsg, tOp, tUn, tVar, tCB, tCons, tNil, tRet, tDrop, gName, gSub, gTup, gCons, gNil, rI, rI0, rU, rIxL, rIxT, rIxS, rSetL, tC, L2.start, cxOf, tIfS, tIf, tTest, tB, tAnd, tOr, tNot, tAndV, tOrV, tNotV, tChain, tTup, tLst, tCall, tNext, tNever,
  rEq, rNe, tBM, tBM0, rCat, rRep, rIn, tSl, rSlL, rSlT, rSlS, rAll, rAny, rSortedS, rAppend, rPop, rExtend, tyV, tFld, tM1, tJs, tRev, tKGet, rRvL, rRvT, rRvS, rExtendT, rLstS, rRepS, tNoPart, tPart, tYes, StX.tStar, wipe, tFmtS, rIxD, tOrT, tMake, tMakeK, tCallN, tFor, tWhile, tLc, iList, iTup, iSeq, iStr, iRng1, iRng2, iEnumS, iZipS,
  List.map, List.length, List.replicate, List.append, List.nil_append, List.cons_append, List.append_nil, List.set, Nat.zero_add, Nat.add_zero, Nat.reduceAdd, Nat.reduceSub, List.getElem?_cons_zero, List.getElem?_cons_succ, List.length_cons, List.length_nil, List.set_cons_zero, List.set_cons_succ, List.getElem?_nil, Option.some.injEq, V.ref.injEq, V.int.injEq, V.str.injEq, V.bl.injEq, List.cons.injEq, and_true, true_and, exists_eq_left, exists_eq_left', exists_eq', exists_eq, exists_and_left, exists_const, reduceCtorEq, false_or, or_false, true_or, or_true, false_and, and_false, and_assoc, if_true, if_false, Bool.false_eq_true, Bool.true_eq_false])
section
variable {P : Program} {w : World} {K : PySem.W.Frag} {mg : Str → Option Value} {base : Heap} {f g : Addr} {fd gd : FuncData} {Ra Aa Ba Ca : Addr}
local macro_rules | `(tactic| walk_at "len") => `(tactic| (simp only [len_tl, tl_append, tl_e, List.length_append, List.length_map, List.length_cons, List.length_nil, q1, q2, q3, q4, q5, q6, q7, q8, q9, q10, q11, szl] at *; omega))
inductive Pl where
  | se (i : Str) (s : Stm)
  | ze (i : Str) (z : Str)
def Pl.enc : Pl → D
  | .se i s => .n [.s i, s.enc]
  | .ze i z => .n [.s i, .s z]
def Pl.lns : Pl → List (List Nat)
  | .se i s => s.lns (tl i)
  | .ze i z => [tl i ++ tl z]
def Pl.sz : Pl → Nat
  | .se _ s => s.wt
  | .ze _ _ => 1
def pads (i : Str) (b : List Stm) : List Pl := if b = [] then [.ze i (Str.ofString "pass")] else b.map (Pl.se i)
def Pl.pay : Pl → D
  | .se _ s => s.enc
  | .ze _ z => .s z
def Pl.ind : Pl → Str
  | .se i _ => i
  | .ze i _ => i
theorem pl_enc (x : Pl) : x.enc = .n [.s x.ind, x.pay] := by cases x <;> rfl
theorem pads_ind {i : Str} {b : List Stm} : ∀ x ∈ pads i b, x.ind = i := by
  unfold pads
  split
  · simp [Pl.ind]
  · simp [Pl.ind]
theorem pads_len {i : Str} {b : List Stm} : (pads i b).length ≤ b.length + 1 := by
  unfold pads
  split
  · simp
  · simp
def spBparts : Sp := fun vs H Q _ => ∃ (v : V) (b : List Stm) (i : Str), vs = [.str i, v] ∧ Rep true H v (.n (encL b)) ∧ b.length ≤ 10000000 ∧ ∀ (p : Addr) (us : List V) (H' : Hp), Ev [] H H' → H' p = some (.lst us) → H p = none → RepL true H' us ((pads i b).reverse.map Pl.enc) → Q (.ref p) H'
theorem ok_bparts (F : Fun K "block_parts" "block_parts" s_block_parts f fd) (T : Gw mg Ra Aa Ba Ca) : FnOk P w K mg base CX0 1 f fd ["indent", "block"] spBparts := by
  refine F.ok sc_block_parts (fun vs H Q E h => ?_) (fun cdv A outer s H vs Q E hr h => ?_)
  · obtain ⟨v, b, i, rfl, _⟩ := h
    rfl
  obtain ⟨v, b, i, rfl, hR, hb, q⟩ := h
  refine ⟨_, (pss_one (ps_ret (pe_lc (own := [("part", 2)]) (g := gName 2) (by rfl) sc_block_parts.nd (pi_tup (pe_rev rv_tup (pe_orT (pv 1) (pe_one (pe_tup (pa_cons pe_str pa_nil)))))) (blkOk_by (N := ["indent", "block", "part"]) (sc := defScope s_block_parts) (by decide +kernel)) (fun _ _ _ _ _ => pg_name (i := 2) sc_block_parts.nd rfl (by first | exact Or.inl rfl | exact Or.inr rfl)) (fun _ _ _ _ _ => pts_nil) (fun _ _ _ _ _ => (pe_tup (pa_cons (pv 0) (pa_cons (pv 2) pa_nil))))))), ?_⟩
  walk_at "rd"
  obtain ⟨a, xs, rfl, ha0, hL⟩ := Rep.seqIff.mp hR
  have ha : H a = some (.tup xs) := by
    rcases ha0 with h | ⟨z, _⟩
    · exact h
    · cases z
  have comp : ∀ (H1 : Hp) (a' : Addr) (xs : List V), Same H H1 → H1 a' = some (.tup xs) → RepL true H1 xs ((pads i b).map Pl.pay) → tLc (iTup K (tRev (rRvT K) (tC (V.ref a')))) (gName 2) tYes (tTup (tCons (tVar 0) (tCons (tVar 2) tNil))) [2] [some (.str i), some (.ref a), none] H1 Q := by
    intro H1 a' xs s1 ha' hL'
    refine ⟨a', xs, rfl, SqT.of ha', fun p8 hp8 => ⟨p8, rfl, ⟨_, SqT.of upd_same⟩, fun D hD => ?_⟩⟩
    have s8 : Same H1 (upd H1 p8 (.tup xs.reverse)) := same_new hp8 _
    have h8 : (upd H1 p8 (.tup xs.reverse)) p8 = some (.tup xs.reverse) := upd_same
    have e8 : Ev [] H (upd H1 p8 (.tup xs.reverse)) := Ev.of_same fun b u e => s8 _ _ (s1 _ _ e)
    have hL8 := hL'.same s8
    generalize upd H1 p8 (.tup xs.reverse) = H8 at *
    have hpl := pads_len (i := i) (b := b)
    have hxl : xs.length = (pads i b).length := by rw [hL'.len, List.length_map]
    refine lc_tup (xs := xs.reverse) (fun j H' => ∃ us, H' D = some (.lst us) ∧ RepL true H' us (((pads i b).reverse.take j).map Pl.enc) ∧ us.length = j ∧ Same H8 H') ⟨[], upd_same, RepL.nil, rfl, same_new hD _⟩ (fun j H' _ ⟨us, _, _, _, sm⟩ => SqT.of (sm _ _ h8)) ?_ ?_
    · rintro j x H' hx ⟨us, hu, hr, hn, sm⟩
      walk_at "rd"
      obtain ⟨d, hd, hrx⟩ := (RepL.rev hL8).get' hx
      rw [← List.map_reverse, List.getElem?_map] at hd
      obtain ⟨s1', hs1, rfl⟩ := Option.map_eq_some_iff.mp hd
      have hind := pads_ind s1' (List.mem_reverse.mp (List.mem_of_getElem? hs1))
      have hib : j < (pads i b).length := by
        rcases Nat.lt_or_ge j (pads i b).reverse.length with k | k
        · rwa [List.length_reverse] at k
        · rw [List.getElem?_eq_none k] at hs1
          cases hs1
      refine ⟨by decide, fun p3 hp3 => ?_⟩
      have m : Same H' (upd H' p3 (.tup [.str i, x])) := same_new hp3 _
      have g3 : (upd H' p3 (.tup [.str i, x])) p3 = some (.tup [.str i, x]) := upd_same
      generalize upd H' p3 (.tup [.str i, x]) = H9 at *
      have hu9 := m _ _ hu
      refine ⟨us, hu9, by rw [hn, szl]; omega, us ++ [.ref p3], upd_same, ?_, by simp [hn], fun b u e => (upd_ne (ne_of_none e hD)).trans (m _ _ (sm _ _ e))⟩
      rw [List.take_succ, hs1, List.map_append]
      refine ((hr.same m).append (.one ?_)).updT hu9
      rw [pl_enc, hind]
      exact Rep.seqIff.mpr ⟨p3, _, rfl, .inl g3, .cons (Rep.strIff.mpr rfl) (.one ((hrx.same sm).same m))⟩
    · rintro H' ⟨us, hu, hr, hn, sm⟩
      rw [List.length_reverse, hxl, show (pads i b).length = (pads i b).reverse.length by simp, List.take_length] at hr
      exact q D us H' (e8.trans (Ev.of_same sm)) hu (e8.free hD) hr
  have hxl : xs.length = b.length := by rw [hL.len, encL_len]
  refine ⟨_, rfl, _, .inr (.inl ⟨xs, SqT.of ha, rfl⟩), ?_⟩
  cases b with
  | nil =>
    have : xs = [] := List.length_eq_zero_iff.mp hxl
    subst this
    rw [if_neg (by decide)]
    refine ⟨by decide, fun p hp => comp _ p _ (same_new hp _) upd_same ?_⟩
    unfold pads
    rw [if_pos rfl]
    exact .one (Rep.strIff.mpr rfl)
  | cons s r =>
    rw [if_pos (by cases xs with | nil => simp at hxl | cons _ _ => rfl)]
    refine comp H a xs (fun _ _ e => e) ha ?_
    unfold pads
    rw [if_neg (by simp), List.map_map]
    have : encL (s :: r) = (s :: r).map (Pl.pay ∘ Pl.se i) := by rw [encL_map]; rfl
    rw [← this]
    exact hL
def Stm.inn (i : Str) (s : Stm) : List Pl := match s with
  | .loop _ _ b => pads (i ++ Str.ofString "  ") b
  | .mark _ b => pads (i ++ Str.ofString "  ") b
  | .cond _ a b => pads (i ++ Str.ofString "  ") a ++ (if b = [] then [] else .ze i (Str.ofString "else:") :: pads (i ++ Str.ofString "  ") b)
  | .leaf _ _ => []
def spInner : Sp := fun vs H Q _ => ∃ (v : V) (s : Stm) (i : Str), vs = [.str i, v] ∧ Rep true H v s.enc ∧ s.sh ∧ s.wt ≤ 10000010 ∧ i.length ≤ 16000000 ∧ ∀ (p : Addr) (us : List V) (H' : Hp), Ev [] H H' → H' p = some (.lst us) → RepL true H' us ((s.inn i).reverse.map Pl.enc) → Q (.ref p) H'
theorem ok_inner (F : Fun K "inner_parts" "inner_parts" s_inner_parts f fd) (T : Gw mg Ra Aa Ba Ca) (C_blocks_within : Cl P w K mg base "blocks_within" 1 ["statement"] spBlocks) (C_block_parts : Cl P w K mg base "block_parts" 1 ["indent", "block"] spBparts) : FnOk P w K mg base CX0 2 f fd ["indent", "statement"] spInner := by
  refine F.ok sc_inner_parts (fun vs H Q E h => ?_) (fun cdv A outer s H vs Q E hr h => ?_)
  · obtain ⟨v, s, i, rfl, _⟩ := h
    rfl
  obtain ⟨v, s, i, rfl, hR, hs, hw, hi, q⟩ := h
  refine ⟨_, (pss_cons (ps_set (i := 2) sc_inner_parts.nd rfl (by first | exact Or.inl rfl | exact Or.inr rfl) (pe_op op_add_str (pv 0) pe_str))
        (pss_cons (ps_set (i := 3) sc_inner_parts.nd rfl (by first | exact Or.inl rfl | exact Or.inr rfl) (pe_call C_blocks_within.ok (hr.mono (by omega)) (by rfl) C_blocks_within.mg C_blocks_within.kp C_blocks_within.b .nil pass0 (pa_cons (pv 1) pa_nil)))
        (pss_cons (ps_set (i := 4) sc_inner_parts.nd rfl (by first | exact Or.inl rfl | exact Or.inr rfl) (pe_lst pa_nil))
        (pss_cons (ps_if (PW.pt (pw_and (pt_cmpR op_eq (pe_callB call_len_seq (by rfl) T.b_len PySem.boot_len (pa_cons (pv 3) pa_nil)) pe_int (nomark _)) (pw_and1 (pt_truth (pe_ix (r := rIxT K) ix_tup (pv 3) pe_int (fun _ _ => rfl)) (by intro _; rfl))))) (pss_cons (ps_expr (pe_bm PySem.F.plainAttrs_list PySem.F.slot_list_extend PySem.F.type_list_extend mt_extend (pv 4) (pa_cons (pe_call C_block_parts.ok (hr.mono (by omega)) (by rfl) C_block_parts.mg C_block_parts.kp C_block_parts.b .nil pass0 (pa_cons (pv 2) (pa_cons (pe_ix (r := rIxT K) ix_tup (pv 3) pe_int (fun _ _ => rfl)) pa_nil))) pa_nil)))
          (pss_one (ps_expr (pe_bm PySem.F.plainAttrs_list PySem.F.slot_list_append PySem.F.type_list_append mt_append (pv 4) (pa_cons (pe_tup (pa_cons (pv 0) (pa_cons pe_str pa_nil))) pa_nil))))) pss_nil)
        (pss_cons (ps_if (pt_truth (pv 3) (by intro _; rfl)) (pss_one (ps_expr (pe_bm PySem.F.plainAttrs_list PySem.F.slot_list_extend PySem.F.type_list_extend mt_extend (pv 4) (pa_cons (pe_call C_block_parts.ok (hr.mono (by omega)) (by rfl) C_block_parts.mg C_block_parts.kp C_block_parts.b .nil pass0 (pa_cons (pv 2) (pa_cons (pe_ix (r := rIxT K) ix_tup (pv 3) pe_int (fun _ _ => rfl)) pa_nil))) pa_nil)))) pss_nil)
        (pss_one (ps_ret (pv 4)))))))), ?_⟩
  walk_at "rd"
  refine ⟨by walk_at "len", v, s, rfl, hR, hs, fun pb us2 H1 e1 h1 r1 => ⟨by decide, fun pl hpl => ?_⟩⟩
  have eU : Ev [] H (upd H1 pl (.lst [])) := e1.trans (Ev.new hpl _)
  have hU : (upd H1 pl (.lst [])) pl = some (.lst []) := upd_same
  have h1U := (same_new hpl (.lst [])) _ _ h1
  have r1U := r1.same (same_new hpl (.lst []))
  have fpl := e1.free hpl
  generalize upd H1 pl (.lst []) = U at *
  walk_at "rd"
  cases s with
  | leaf w1 x =>
    cases RepL.nilIff.mp r1U
    refine ⟨_, .inr (SqT.of h1U), rfl, ?_⟩
    rw [if_neg (by decide)]
    refine ⟨false, .inr (.inl ⟨_, SqT.of h1U, rfl⟩), ?_⟩
    rw [if_neg (by decide)]
    exact q pl [] U eU hU RepL.nil
  | loop x w1 b =>
    obtain ⟨u1, r0, rfl, h0, hn⟩ := RepL.consIff.mp r1U
    cases RepL.nilIff.mp hn
    unfold Stm.wt at hw
    have hlw := len_wt b
    have hpl2 := pads_len (i := i ++ Str.ofString "  ") (b := b)
    refine ⟨_, .inr (SqT.of h1U), rfl, ?_⟩
    rw [if_neg (by simp)]
    refine ⟨true, .inr (.inl ⟨_, SqT.of h1U, rfl⟩), ?_⟩
    rw [if_pos rfl]
    refine ⟨.inl ⟨_, SqL.of hU⟩, _, SqT.of h1U, _, at0, u1, b, _, rfl, h0, by omega, fun p3 us3 H3 e3 h3 f3 r3 => ?_⟩
    have hp3 := e3.s0 _ _ hU
    refine ⟨p3, rfl, [], hp3, us3, h3, ?_, q pl us3 _ ((eU.trans e3).over fpl) upd_same (r3.updT hp3)⟩
    rw [r3.len, List.length_map, List.length_reverse, szl]
    simp only [List.length_nil]
    omega
  | mark x b =>
    obtain ⟨u1, r0, rfl, h0, hn⟩ := RepL.consIff.mp r1U
    cases RepL.nilIff.mp hn
    unfold Stm.wt at hw
    have hlw := len_wt b
    have hpl2 := pads_len (i := i ++ Str.ofString "  ") (b := b)
    refine ⟨_, .inr (SqT.of h1U), rfl, ?_⟩
    rw [if_neg (by simp)]
    refine ⟨true, .inr (.inl ⟨_, SqT.of h1U, rfl⟩), ?_⟩
    rw [if_pos rfl]
    refine ⟨.inl ⟨_, SqL.of hU⟩, _, SqT.of h1U, _, at0, u1, b, _, rfl, h0, by omega, fun p3 us3 H3 e3 h3 f3 r3 => ?_⟩
    have hp3 := e3.s0 _ _ hU
    refine ⟨p3, rfl, [], hp3, us3, h3, ?_, q pl us3 _ ((eU.trans e3).over fpl) upd_same (r3.updT hp3)⟩
    rw [r3.len, List.length_map, List.length_reverse, szl]
    simp only [List.length_nil]
    omega
  | cond t b1 b2 =>
    obtain ⟨u1, r0, rfl, h0, hn⟩ := RepL.consIff.mp r1U
    obtain ⟨u2, r0, rfl, h2, hn⟩ := RepL.consIff.mp hn
    cases RepL.nilIff.mp hn
    unfold Stm.wt at hw
    have hlw := len_wt b1
    have hlw2 := len_wt b2
    have hpl2 := pads_len (i := i ++ Str.ofString "  ") (b := b1)
    have hpl3 := pads_len (i := i ++ Str.ofString "  ") (b := b2)
    obtain ⟨ab, ub, rfl, hab0, hLb⟩ := Rep.seqIff.mp h2
    have hab : U ab = some (.tup ub) := by
      rcases hab0 with h | ⟨z, _⟩
      · exact h
      · cases z
    have hbl : ub.length = b2.length := by rw [hLb.len, encL_len]
    refine ⟨_, .inr (SqT.of h1U), rfl, ?_⟩
    rw [if_pos (by simp)]
    refine ⟨_, SqT.of h1U, _, at1, _, .inr (.inl ⟨_, SqT.of hab, rfl⟩), ?_⟩
    cases b2 with
    | nil =>
      cases List.length_eq_zero_iff.mp hbl
      rw [if_neg (by decide)]
      refine ⟨true, .inr (.inl ⟨_, SqT.of h1U, rfl⟩), ?_⟩
      rw [if_pos rfl]
      refine ⟨.inl ⟨_, SqL.of hU⟩, _, SqT.of h1U, _, at0, u1, b1, _, rfl, h0, by omega, fun p3 us3 H3 e3 h3 f3 r3 => ?_⟩
      have hp3 := e3.s0 _ _ hU
      refine ⟨p3, rfl, [], hp3, us3, h3, ?_, q pl us3 _ ((eU.trans e3).over fpl) upd_same ?_⟩
      · rw [r3.len, List.length_map, List.length_reverse, szl]
        simp only [List.length_nil]
        omega
      · have : Stm.inn i (.cond t b1 []) = pads (i ++ Str.ofString "  ") b1 := by simp [Stm.inn]
        rw [this]
        exact r3.updT hp3
    | cons s2 rr =>
      rw [if_pos (by cases ub with | nil => simp at hbl | cons _ _ => rfl)]
      refine ⟨.inl ⟨_, SqL.of hU⟩, _, SqT.of h1U, _, at1, .ref ab, s2 :: rr, _, rfl, h2, by omega, fun p3 us3 H3 e3 h3 f3 r3 => ?_⟩
      have hp3 := e3.s0 _ _ hU
      refine ⟨p3, rfl, [], hp3, us3, h3, ?_, ?_⟩
      · rw [r3.len, List.length_map, List.length_reverse, szl]
        simp only [List.length_nil, List.length_cons] at *
        omega
      have e3U : Ev [] H (upd H3 pl (.lst ([] ++ us3))) := (eU.trans e3).over fpl
      have t3 : Tp H3 (upd H3 pl (.lst ([] ++ us3))) := Tp.lst hp3
      have hp4 : (upd H3 pl (.lst ([] ++ us3))) pl = some (.lst us3) := upd_same
      have r3' := r3.tp t3
      have h1V := t3 _ _ (e3.s0 _ _ h1U)
      have h0V := (h0.ev e3).tp t3
      generalize upd H3 pl (.lst ([] ++ us3)) = V1 at *
      refine ⟨.inl ⟨_, SqL.of hp4⟩, by decide, fun p5 hp5 => ⟨_, (upd_ne (ne_of_none hp4 hp5)).trans hp4, ?_, ?_⟩⟩
      · rw [r3.len, List.length_map, List.length_reverse, szl]
        simp only [List.length_cons] at *
        omega
      have m5 := same_new hp5 (.tup [.str i, .str (Str.ofString "else:")])
      have hp5' := m5 _ _ hp4
      have g5 : (upd V1 p5 (.tup [.str i, .str (Str.ofString "else:")])) p5 = some (.tup [.str i, .str (Str.ofString "else:")]) := upd_same
      have e5 := e3U.trans (Ev.new hp5 (.tup [.str i, .str (Str.ofString "else:")]))
      have r5 := r3'.same m5
      have h15 := m5 _ _ h1V
      have h05 := h0V.same m5
      generalize upd V1 p5 (.tup [.str i, .str (Str.ofString "else:")]) = V2 at *
      have e6 : Ev [] H (upd V2 pl (.lst (us3 ++ [.ref p5]))) := e5.over fpl
      have t6 : Tp V2 (upd V2 pl (.lst (us3 ++ [.ref p5]))) := Tp.lst hp5'
      have hp6 : (upd V2 pl (.lst (us3 ++ [.ref p5]))) pl = some (.lst (us3 ++ [.ref p5])) := upd_same
      have r6 : RepL true (upd V2 pl (.lst (us3 ++ [.ref p5]))) (us3 ++ [.ref p5]) (((pads (i ++ Str.ofString "  ") (s2 :: rr)).reverse ++ [Pl.ze i (Str.ofString "else:")]).map Pl.enc) := by
        rw [List.map_append]
        exact (r5.tp t6).append (.one (Rep.seqIff.mpr ⟨p5, _, rfl, .inl (t6 _ _ g5), .cons (Rep.strIff.mpr rfl) (.one (Rep.strIff.mpr rfl))⟩))
      have h16 := t6 _ _ h15
      have h06 := h05.tp t6
      generalize upd V2 pl (.lst (us3 ++ [.ref p5])) = V3 at *
      refine ⟨true, .inr (.inl ⟨_, SqT.of h16, rfl⟩), ?_⟩
      rw [if_pos rfl]
      refine ⟨.inl ⟨_, SqL.of hp6⟩, _, SqT.of h16, _, at0, u1, b1, _, rfl, h06, by omega, fun p7 us7 H7 e7 h7 f7 r7 => ?_⟩
      have hp7 := e7.kp.l _ _ r6.items hp6
      refine ⟨p7, rfl, _, hp7, us7, h7, ?_, q pl _ _ ((e6.trans e7).over fpl) upd_same ?_⟩
      · rw [r7.len, List.length_append, r3.len, List.length_map, List.length_reverse, List.length_map, List.length_reverse, szl]
        simp only [List.length_nil, List.length_cons] at *
        omega
      · have : (Stm.inn i (.cond t b1 (s2 :: rr))).reverse = ((pads (i ++ Str.ofString "  ") (s2 :: rr)).reverse ++ [Pl.ze i (Str.ofString "else:")]) ++ (pads (i ++ Str.ofString "  ") b1).reverse := by simp [Stm.inn]
        rw [this, List.map_append]
        exact ((r6.ev e7).append r7).updT hp7
def hdr (al pr : Str) : List Nat := qs "reads " ++ (tl al ++ (qs " prints " ++ tl pr))
def spFormat (K : PySem.W.Frag) : Sp := fun vs H Q _ => ∃ (o C dx : Addr) (vb vp : V) (b : List Stm) (al pr : Str), vs = [.ref o] ∧ PCls K C ∧ H o = some (.ins C dx [(Str.ofString "reads", .str al), (Str.ofString "prints", .str pr), (Str.ofString "block", vb), (Str.ofString "spots", vp)]) ∧ Rep true H vb (.n (encL b)) ∧ Drawn al pr b ∧
  ∀ (ys : List Str) (H' : Hp), Ev [] H H' → ys.map tl = hdr al pr :: blk [] b → Q (.str (Txt.join (Str.ofString "\n") ys)) H'
theorem lnsL_flat (ind : List Nat) : ∀ (b : List Stm), lnsL ind b = b.flatMap (Stm.lns ind)
  | [] => by unfold lnsL; rfl
  | s :: r => by
    unfold lnsL
    rw [lnsL_flat ind r, List.flatMap_cons]
theorem pads_lns (i : Str) (b : List Stm) : (pads i b).flatMap Pl.lns = blk (tl i) b := by
  cases b with
  | nil => simp [pads, Pl.lns, blk, pad]
  | cons s r =>
    unfold pads blk pad
    rw [if_neg (by simp), List.flatMap_map, lnsL_flat]
    rfl
theorem inn_lns (i : Str) (s : Stm) : s.lns (tl i) = (tl i ++ s.hd) :: (s.inn i).flatMap Pl.lns := by
  cases s with
  | loop x w b =>
    show _ = _ :: (pads (i ++ Str.ofString "  ") b).flatMap Pl.lns
    rw [pads_lns, tl_append]
    unfold Stm.lns blk
    rfl
  | mark x b =>
    show _ = _ :: (pads (i ++ Str.ofString "  ") b).flatMap Pl.lns
    rw [pads_lns, tl_append]
    unfold Stm.lns blk
    rfl
  | cond t a b =>
    show _ = _ :: (pads (i ++ Str.ofString "  ") a ++ (if b = [] then [] else .ze i (Str.ofString "else:") :: pads (i ++ Str.ofString "  ") b)).flatMap Pl.lns
    rw [List.flatMap_append, pads_lns, tl_append]
    cases b with
    | nil => unfold Stm.lns els blk; simp
    | cons s2 r =>
      rw [if_neg (by simp), List.flatMap_cons, pads_lns, tl_append]
      unfold Stm.lns els blk pad Pl.lns
      simp
  | leaf w x =>
    unfold Stm.lns
    rfl
def psz (st : List Pl) : Nat := (st.map Pl.sz).sum
theorem psz_append (a b : List Pl) : psz (a ++ b) = psz a + psz b := by simp [psz]
theorem psz_rev (a : List Pl) : psz a.reverse = psz a := by unfold psz; rw [List.map_reverse, List.sum_reverse]
theorem psz_len : ∀ (l : List Pl), l.length ≤ psz l
  | [] => Nat.zero_le _
  | t :: r => by
    have := psz_len r
    have : 1 ≤ t.sz := by cases t with | se i s => exact s.wt_pos | ze i z => exact Nat.le_refl _
    simp [psz] at *
    omega
theorem pads_sz (i : Str) (b : List Stm) : psz (pads i b) ≤ wtL b + 1 := by
  unfold pads
  split
  · simp [psz, Pl.sz]
  · rw [wtL_sum]
    unfold psz
    rw [List.map_map]
    show (b.map Stm.wt).sum ≤ _
    omega
theorem inn_sz (i : Str) (s : Stm) : psz (s.inn i) < s.wt := by
  cases s with
  | loop x w b =>
    have := pads_sz (i ++ Str.ofString "  ") b
    simp only [Stm.inn, Stm.wt]
    omega
  | mark x b =>
    have := pads_sz (i ++ Str.ofString "  ") b
    simp only [Stm.inn, Stm.wt]
    omega
  | cond t a b =>
    have := pads_sz (i ++ Str.ofString "  ") a
    have := pads_sz (i ++ Str.ofString "  ") b
    simp only [Stm.inn, Stm.wt]
    rw [psz_append]
    split
    · have : psz [] = 0 := rfl
      omega
    · have : psz (Pl.ze i (Str.ofString "else:") :: pads (i ++ Str.ofString "  ") b) = 1 + psz (pads (i ++ Str.ofString "  ") b) := by simp [psz, Pl.sz]
      omega
  | leaf w x => simp only [Stm.inn, Stm.wt, psz]; simp
def Pl.ok : Pl → Prop
  | .se _ s => s.sh
  | .ze _ _ => True
theorem pads_ok {i : Str} {b : List Stm} (h : shL b) : ∀ x ∈ pads i b, x.ok := by
  unfold pads
  split
  · simp [Pl.ok]
  · intro x hx
    obtain ⟨s, hs, rfl⟩ := List.mem_map.mp hx
    exact shL_mem h hs
theorem inn_ok {i : Str} {s : Stm} (h : s.sh) : ∀ x ∈ s.inn i, x.ok := by
  cases s with
  | loop x w b =>
    unfold Stm.sh at h
    exact pads_ok h.2.2
  | mark x b =>
    unfold Stm.sh at h
    exact pads_ok h.2
  | cond t a b =>
    unfold Stm.sh at h
    intro x hx
    rcases List.mem_append.mp hx with hx | hx
    · exact pads_ok h.2.2.1 x hx
    · split at hx
      · cases hx
      · rcases List.mem_cons.mp hx with rfl | hx
        · trivial
        · exact pads_ok h.2.2.2 x hx
  | leaf w x => simp [Stm.inn]
theorem mem_cost : ∀ {L : List (List Nat)} {l : List Nat}, l ∈ L → l.length ≤ cost L
  | [], l, h => by cases h
  | x :: r, l, h => by
    rw [cost_cons]
    rcases List.mem_cons.mp h with rfl | h
    · omega
    · have := mem_cost h
      omega
theorem c_rp : (qs "reads ").length = 6 ∧ (qs " prints ").length = 8 := by decide +kernel
theorem all_cost {al pr : Str} {b : List Stm} (h : Drawn al pr b) : cost (hdr al pr :: blk [] b) ≤ 10000100 := by
  have h1 := lnsL_cost (ind := []) h.sh (by have := h.dep; simp; omega)
  have h2 := pad_cost (ind := []) (b := b) (l := lnsL [] b) (by simp)
  have h3 := h.hal.hi
  have h4 := h.hpr.hi
  have h5 := h.wt
  rw [len_tl] at h3 h4
  rw [cost_cons]
  unfold hdr
  simp only [List.length_append, c_rp.1, c_rp.2]
  show _ + cost (pad [] b (lnsL [] b)) ≤ _
  omega
theorem join_ok {ys : List Str} {L : List (List Nat)} (h : ys.map tl = L) (hc : cost L ≤ 10000100) : (ys.map (·.length)).sum + ys.length * (Str.ofString "\n").length ≤ 16777216 := by
  have hn : (Str.ofString "\n").length = 1 := by decide +kernel
  rw [hn]
  have h2 : (ys.map (·.length)) = ys.map (List.length ∘ tl) := List.map_congr_left fun z _ => len_tl z
  have h3 : ∀ (l : List (List Nat)), cost l = (l.map List.length).sum + l.length := by
    intro l
    induction l with
    | nil => rfl
    | cons x r ih => rw [cost_cons, ih]; simp; omega
  have := h3 L
  rw [← h, List.map_map, List.length_map] at this
  rw [h2]
  rw [h] at this
  omega
theorem ok_format (F : Fun K "format_program" "format_program" s_format_program f fd) (T : Gw mg Ra Aa Ba Ca) (C_block_parts : Cl P w K mg base "block_parts" 1 ["indent", "block"] spBparts) (C_written_statement : Cl P w K mg base "written_statement" 2 ["statement"] spPstm) (C_inner_parts : Cl P w K mg base "inner_parts" 2 ["indent", "statement"] spInner) : FnOk P w K mg base CX0 3 f fd ["program"] (spFormat K) := by
  refine F.ok sc_format_program (fun vs H Q E h => ?_) (fun cdv A outer s H vs Q E hr h => ?_)
  · obtain ⟨o, C, dx, vb, vp, b, al, pr, rfl, _⟩ := h
    rfl
  obtain ⟨o, C, dx, vb, vp, b, al, pr, rfl, cC, ho, hR, hD, q⟩ := h
  refine ⟨_, (pss_cons (ps_set (i := 1) sc_format_program.nd rfl (by first | exact Or.inl rfl | exact Or.inr rfl) (pe_lst (pa_cons (pe_joined (.cons pe_str (.cons (pe_fmtS (pe_fld (pv 0) rfl)) (.cons pe_str (.cons (pe_fmtS (pe_fld (pv 0) rfl)) .nil))))) pa_nil)))
        (pss_cons (ps_set (i := 2) sc_format_program.nd rfl (by first | exact Or.inl rfl | exact Or.inr rfl) (pe_call C_block_parts.ok (hr.mono (by omega)) (by rfl) C_block_parts.mg C_block_parts.kp C_block_parts.b .nil pass0 (pa_cons pe_str (pa_cons (pe_fld (pv 0) rfl) pa_nil))))
        (pss_cons (ps_while PassesOwn.never (pt_truth (pv 2) (by intro _; rfl)) (pss_cons (ps_asg (pe_bm0 PySem.F.plainAttrs_list PySem.F.slot_list_pop PySem.F.type_list_pop mt_pop (pv 2)) (pg_tup (n := 2) (by rfl) (pgs_cons (pg_name (i := 3) sc_format_program.nd rfl (by first | exact Or.inl rfl | exact Or.inr rfl)) (pgs_cons (pg_name (i := 4) sc_format_program.nd rfl (by first | exact Or.inl rfl | exact Or.inr rfl)) pgs_nil))))
          (pss_one (ps_if (pt_val (pe_callB (r := rIsi K) (id := "isinstance") call_isi (by rfl) T.b_isinstance (by decide +kernel) (pa_cons (pv 4) (pa_cons (pe_bltn (v := .ty "str") (by rfl) T.b_str (by decide +kernel) rfl) pa_nil)))) (pss_one (ps_expr (pe_bm PySem.F.plainAttrs_list PySem.F.slot_list_append PySem.F.type_list_append mt_append (pv 1) (pa_cons (pe_op op_add_str (pv 3) (pv 4)) pa_nil)))) (pss_cons (ps_expr (pe_bm PySem.F.plainAttrs_list PySem.F.slot_list_append PySem.F.type_list_append mt_append (pv 1) (pa_cons (pe_op op_add_str (pv 3) (pe_call C_written_statement.ok (hr.mono (by omega)) (by rfl) C_written_statement.mg C_written_statement.kp C_written_statement.b .nil pass0 (pa_cons (pv 4) pa_nil))) pa_nil)))
            (pss_one (ps_expr (pe_bm PySem.F.plainAttrs_list PySem.F.slot_list_extend PySem.F.type_list_extend mt_extend (pv 2) (pa_cons (pe_call C_inner_parts.ok (hr.mono (by omega)) (by rfl) C_inner_parts.mg C_inner_parts.kp C_inner_parts.b .nil pass0 (pa_cons (pv 3) (pa_cons (pv 4) pa_nil))) pa_nil)))))))))
        (pss_one (ps_ret (pe_join pe_str (pv 1))))))), ?_⟩
  walk_at "rd"
  have hal := hD.hal.hi
  have hpr := hD.hpr.hi
  have hcost := all_cost hD
  have hblen : b.length ≤ 10000000 := by have := hD.len; omega
  have hbwt := hD.wt
  rw [len_tl] at hal hpr
  have crp := c_rp
  refine ⟨?_, C, dx, _, ho, cC.1, cC.2.1, .str al, rfl, al, rfl, ?_, ?_, ?_, C, dx, _, ho, cC.1, cC.2.2.1, .str pr, rfl, pr, rfl, ?_, ?_, by decide, fun lp hlp => ?_⟩
  · simp only [len_tl, tl_append, tl_e, List.length_append, List.length_nil, crp.1, crp.2, szl]; omega
  · simp only [len_tl, tl_append, tl_e, List.length_append, List.length_nil, crp.1, crp.2, szl]; omega
  · simp only [len_tl, tl_append, tl_e, List.length_append, List.length_nil, crp.1, crp.2, szl]; omega
  · simp only [len_tl, tl_append, tl_e, List.length_append, List.length_nil, crp.1, crp.2, szl]; omega
  · simp only [len_tl, tl_append, tl_e, List.length_append, List.length_nil, crp.1, crp.2, szl]; omega
  · simp only [len_tl, tl_append, tl_e, List.length_append, List.length_nil, crp.1, crp.2, szl]; omega
  have m1 := same_new hlp (.lst [.str (Str.empty ++ Str.ofString "reads " ++ al ++ Str.ofString " prints " ++ pr)])
  have e1 := Ev.new (l := []) hlp (.lst [.str (Str.empty ++ Str.ofString "reads " ++ al ++ Str.ofString " prints " ++ pr)])
  have g1 : (upd H lp (.lst [.str (Str.empty ++ Str.ofString "reads " ++ al ++ Str.ofString " prints " ++ pr)])) lp = some (.lst ([Str.empty ++ Str.ofString "reads " ++ al ++ Str.ofString " prints " ++ pr].map V.str)) := upd_same
  refine ⟨C, dx, _, m1 _ _ ho, cC.1, cC.2.2.2.1, vb, rfl, vb, b, Str.ofString "", rfl, hR.same m1, hblen, fun wp us H2 e2 h2 f2 r2 => ?_⟩
  have flp := hlp
  generalize upd H lp (.lst [.str (Str.empty ++ Str.ofString "reads " ++ al ++ Str.ofString " prints " ++ pr)]) = H1 at *
  have fwp := e1.free f2
  have g2 := Strs.ev g1 e2
  have nlw : lp ≠ wp := fun z => by rw [z] at g1; rw [g1] at f2; cases f2
  refine whileL (fun m σ H' => ∃ (st : List Pl) (us : List V) (zs : List Str) (c d : Option V), σ = [some (.ref o), some (.ref lp), some (.ref wp), c, d] ∧ m = psz st ∧ m ≤ 10000010 ∧ H' wp = some (.lst us) ∧ RepL true H' us (st.map Pl.enc) ∧ (∀ x ∈ st, x.ok) ∧ H' lp = some (.lst (zs.map V.str)) ∧ zs.map tl ++ st.reverse.flatMap Pl.lns = hdr al pr :: blk [] b ∧ Ev [] H H') ?_ ?_
  · have hp := pads_sz (Str.ofString "") b
    refine ⟨_, (pads (Str.ofString "") b).reverse, us, _, none, none, rfl, rfl, by rw [psz_rev]; omega, h2, r2, fun x hx => pads_ok hD.sh x (List.mem_reverse.mp hx), g2, ?_, e1.trans e2⟩
    rw [List.reverse_reverse, pads_lns, tl_empty]
    simp [hdr, tl_append, tl_e]
  rintro m σ H' ⟨st, us, zs, c, d, rfl, rfl, hm, hl, hL, hok, hzl, htext, ev⟩
  refine ⟨wp, us, rfl, hl, ?_, fun hnil => ?_⟩
  · rintro ys y rfl
    obtain ⟨st, i1, rfl, hL1, hy⟩ := hL.snocM
    have ev1 : Ev [] H (upd H' wp (.lst ys)) := ev.over fwp
    have hy1 : Rep true (upd H' wp (.lst ys)) y i1.enc := hy.updT hl
    have hL2 := hL1.updT (o := .lst ys) hl
    have hw1 : (upd H' wp (.lst ys)) wp = some (.lst ys) := upd_same
    have hz1 : (upd H' wp (.lst ys)) lp = some (.lst (zs.map V.str)) := (upd_ne nlw).trans hzl
    have hsum : psz (st ++ [i1]) = psz st + i1.sz := by rw [psz_append]; simp [psz]
    have hi1 := hok i1 (by simp)
    rw [hsum] at hm
    rw [List.reverse_append, List.reverse_singleton, List.flatMap_append, List.flatMap_singleton, ← List.append_assoc] at htext
    have hokr : ∀ x ∈ st, x.ok := fun x hx => hok x (List.mem_append_left _ hx)
    have hyl : ys.length = st.length := by rw [hL1.len, List.length_map]
    have hstl : st.length ≤ psz st := psz_len st
    have hzlen : zs.length + i1.lns.length ≤ 10000100 := by
      have h1 := cost_len (hdr al pr :: blk [] b)
      rw [← htext, List.length_append, List.length_append, List.length_map] at h1
      rw [htext] at h1
      omega
    have hmem : ∀ l ∈ i1.lns, l.length ≤ 10000100 := fun l hl' => by
      have : l ∈ hdr al pr :: blk [] b := by
        rw [← htext]
        exact List.mem_append_left _ (List.mem_append_right _ hl')
      exact Nat.le_trans (mem_cost this) hcost
    rw [pl_enc] at hy1
    obtain ⟨ya, yu, rfl, hya, hyL⟩ := repT hy1
    obtain ⟨x0, r0, rfl, h0, hn⟩ := RepL.consIff.mp hyL
    cases RepL.nilIff.mp hn
    walk_at "rd"
    refine ⟨.inl ⟨_, SqL.of hl⟩, _, hl, .ref ya, last_of ys _, ?_⟩
    rw [List.dropLast_concat]
    generalize upd H' wp (.lst ys) = H1' at *
    refine ⟨ya, rfl, _, SqT.of hya, rfl, _, _, rfl, _, _, rfl, rfl, ?_⟩
    cases i1 with
    | ze i z =>
      cases Rep.strIff.mp h0
      refine isi_str rfl ⟨true, rfl, ?_⟩
      rw [if_pos rfl]
      have hlen := hmem (tl i ++ tl z) (by simp [Pl.lns])
      have hone : (Pl.lns (.ze i z)).length = 1 := rfl
      have hsz1 : Pl.sz (.ze i z) = 1 := rfl
      rw [List.length_append] at hlen
      refine ⟨.inl ⟨_, SqL.of hz1⟩, i, rfl, z, rfl, by rw [len_tl, len_tl z, szl]; omega, _, hz1, by rw [List.length_map, szl]; omega, psz st, by rw [hsum]; omega, st, rfl, by omega, ys, (upd_ne nlw.symm).trans hw1, hL2.updT hz1, hokr, zs ++ [i ++ z], by rw [upd_same, snoc_map], ?_, ev1.over flp⟩
      rw [← htext]
      simp [Pl.lns, tl_append]
    | se i s =>
      have hsh : s.sh := hi1
      have hRs : Rep true H1' x0 s.enc := h0
      have hRs2 := hRs
      rw [senc_eq] at hRs2
      obtain ⟨as, uss, rfl, has, _⟩ := repT hRs2
      refine isi_tup has rfl ⟨false, rfl, ?_⟩
      rw [if_neg (by decide)]
      have hll : Pl.lns (.se i s) = (tl i ++ s.hd) :: (s.inn i).flatMap Pl.lns := inn_lns i s
      have hlen := hmem (tl i ++ s.hd) (by rw [hll]; simp)
      have hsz1 : Pl.sz (.se i s) = s.wt := rfl
      have hinn := inn_sz i s
      rw [List.length_append] at hlen
      rw [hll, List.length_cons] at hzlen
      refine ⟨.inl ⟨_, SqL.of hz1⟩, .ref as, s, rfl, hRs, hsh, fun zt H3 e3 hzt => ?_⟩
      have hzt' : zt.length = s.hd.length := by rw [len_tl, hzt]
      have hz3 := Strs.ev hz1 e3
      have hw3 := e3.kp.l _ _ hL2.items hw1
      have hL3 := (hL2.ev e3).updT (o := .lst (zs.map V.str ++ [.str (i ++ zt)])) hz3
      have hR3 := (hRs.ev e3).updT (o := .lst (zs.map V.str ++ [.str (i ++ zt)])) hz3
      have hw4 := (upd_ne (o := .lst (zs.map V.str ++ [.str (i ++ zt)])) nlw.symm).trans hw3
      have hz4 : (upd H3 lp (.lst (zs.map V.str ++ [.str (i ++ zt)]))) lp = some (.lst ((zs ++ [i ++ zt]).map V.str)) := by rw [upd_same, snoc_map]
      have ev4 : Ev [] H (upd H3 lp (.lst (zs.map V.str ++ [.str (i ++ zt)]))) := (ev1.trans e3).over flp
      refine ⟨i, rfl, zt, rfl, by rw [len_tl i, hzt', szl]; omega, _, hz3, by rw [List.length_map, szl]; omega, .inl ⟨_, SqL.of hw4⟩, ?_⟩
      generalize upd H3 lp (.lst (zs.map V.str ++ [.str (i ++ zt)])) = H4 at *
      refine ⟨.ref as, s, i, rfl, hR3, hsh, ?_, by rw [len_tl]; omega, fun p3 us3 H5 e5 h5 r5 => ?_⟩
      · omega
      have hw5 := e5.kp.l _ _ hL3.items hw4
      have hil := psz_len (s.inn i)
      refine ⟨p3, rfl, ys, hw5, us3, h5, ?_, psz (st ++ (s.inn i).reverse), by rw [hsum, psz_append, psz_rev]; omega, st ++ (s.inn i).reverse, rfl, by rw [psz_append, psz_rev]; omega, _, upd_same, ?_, ?_, zs ++ [i ++ zt], (upd_ne nlw).trans (Strs.ev hz4 e5), ?_, (ev4.trans e5).over fwp⟩
      · rw [hyl, r5.len, List.length_map, List.length_reverse, szl]
        omega
      · rw [List.map_append]
        exact ((hL3.ev e5).append r5).updT hw5
      · intro x hx
        rcases List.mem_append.mp hx with hx | hx
        · exact hokr x hx
        · exact inn_ok hsh x (List.mem_reverse.mp hx)
      · rw [← htext, hll]
        simp [tl_append, hzt]
  · have hv0 : st = [] := by
      have := hL.len
      rw [hnil, List.length_map] at this
      exact List.length_eq_zero_iff.mp this.symm
    subst hv0
    rw [List.reverse_nil, List.flatMap_nil, List.append_nil] at htext
    walk_at "rd"
    exact ⟨zs, .inl (SqL.of hzl), join_ok htext hcost, q zs H' ev htext⟩
end
end TW
/-! L1 -/
set_option Elab.async false
set_option linter.all false
set_option maxRecDepth 100000
set_option maxHeartbeats 4000000
namespace TW
open PySem L2 TL
local macro_rules | `(tactic| walk_at "rd") => `(tactic| simp only [tSeq, tAsg, tOp, tUn, tVar, tCB, tCons, tNil, tRet, tDrop, gName, gSub, gTup, gCons, gNil, rI, rI0, rU, rIxL, rIxT, rIxS, rSetL, tC, L2.start, cxOf, tIfS, tIf, tTest, tB, tAnd, tOr, tNot, tAndV, tOrV, tNotV, tChain, tTup, tLst, tCall, tNext, tNever,
  rEq, rNe, tBM, tBM0, rCat, rRep, rIn, tSl, rSlL, rSlT, rSlS, rAll, rAny, rSortedS, rAppend, rPop, rExtend, tyV, tFld, tM1, tJs, tRev, tKGet, rRvL, rRvT, rRvS, rExtendT, rLstS, rRepS, tNoPart, tPart, tYes, StX.tStar, wipe, tFmtS, rIxD, tOrT, tMake, tMakeK, tCallN,
  List.map, List.length, List.replicate, List.append, List.nil_append, List.cons_append, List.append_nil, List.set, Nat.zero_add, Nat.add_zero, Nat.reduceAdd, Nat.reduceSub, List.getElem?_cons_zero, List.getElem?_cons_succ, List.length_cons, List.length_nil, List.set_cons_zero, List.set_cons_succ, List.getElem?_nil, Option.some.injEq, V.ref.injEq, V.int.injEq, V.str.injEq, V.bl.injEq, List.cons.injEq, and_true, true_and, exists_eq_left, exists_eq_left', exists_eq', exists_eq, exists_and_left, exists_const, reduceCtorEq, false_or, or_false, true_or, or_true, false_and, and_false, and_assoc, if_true, if_false, Bool.false_eq_true, Bool.true_eq_false])
local macro_rules | `(tactic| walk_at "rdd") => `(tactic| simp only [tSeq, tAsg, tOp, tUn, tVar, tCB, tCons, tNil, tRet, tDrop, gName, gSub, gTup, gCons, gNil, rI, rI0, rU, rIxL, rIxT, rIxS, rSetL, tC, L2.start, cxOf, tIfS, tIf, tTest, tB, tAnd, tOr, tNot, tAndV, tOrV, tNotV, tChain, tTup, tLst, tCall, tNext, tNever,
  rEq, rNe, tBM, tBM0, rCat, rRep, rIn, tSl, rSlL, rSlT, rSlS, rAll, rAny, rSortedS, rAppend, rPop, rExtend, tyV, tFld, tM1, tJs, tRev, tKGet, rRvL, rRvT, rRvS, rExtendT, rLstS, rRepS, tNoPart, tPart, tYes, StX.tStar, wipe, tFmtS, rIxD, tOrT, tMake, tMakeK, tCallN, tFor, tWhile, tLc, iList, iTup, iSeq, iStr, iRng1, iRng2, iEnumS, iZipS,
  List.map, List.length, List.replicate, List.append, List.nil_append, List.cons_append, List.append_nil, List.set, Nat.zero_add, Nat.add_zero, Nat.reduceAdd, Nat.reduceSub, List.getElem?_cons_zero, List.getElem?_cons_succ, List.length_cons, List.length_nil, List.set_cons_zero, List.set_cons_succ, List.getElem?_nil, Option.some.injEq, V.ref.injEq, V.int.injEq, V.str.injEq, V.bl.injEq, List.cons.injEq, and_true, true_and, exists_eq_left, exists_eq_left', exists_eq', exists_eq, exists_and_left, exists_const, reduceCtorEq, false_or, or_false, true_or, or_true, false_and, and_false, and_assoc, if_true, if_false, Bool.false_eq_true, Bool.true_eq_false])
section
variable {P : Program} {w : World} {K : PySem.W.Frag} {mg : Str → Option Value} {base : Heap} {f g : Addr} {fd gd : FuncData} {Ra Aa Ba Ca : Addr}
theorem kbn_init (F : Fun K "__init__" "Program.__init__" s_ProgramU_initU f fd) : KBn K fd ["self", "reads", "prints", "block"] 1 ["block", "prints", "reads"] (fun us ws => us ++ ws.reverse) (fun vs zs => vs ++ zs.reverse) := by
  obtain ⟨oc, od, kV, doc, pm, an, cdv, ct, osl, rfl, lk, hcd⟩ := F.ex
  exact ⟨fun s us ws _ l1 l2 => match us, ws, l1, l2 with | [_], [_, _, _], _, _ => .of_eq rfl, fun r1 r2 => r1.append (vals_reverse r2)⟩
theorem kbn_fmt (F : Fun K "format_program" "format_program" s_format_program f fd) : KBn K fd ["program"] 0 ["program"] (fun _ ws => ws) (fun _ zs => zs) := by
  obtain ⟨oc, od, kV, doc, pm, an, cdv, ct, osl, rfl, lk, hcd⟩ := F.ex
  exact ⟨fun s us ws _ l1 l2 => match us, ws, l1, l2 with | [], [_], _, _ => .of_eq rfl, fun _ r2 => r2⟩
/-- what the law draws: a list of two alphabets and the list of statements -/
structure Dn (H : Hp) (p : Addr) (al pr : Str) (b : List Stm) (bp : Addr) (vs : List V) : Prop where
  hp : H p = some (.lst [.str al, .str pr, .ref bp])
  hb : H bp = some (.lst vs)
  rep : RepL false H vs (encL b)
  d : Drawn al pr b
theorem Dn.ev {H H' : Hp} {l : List Addr} {p bp : Addr} {al pr : Str} {b : List Stm} {vs : List V} (h : Dn H p al pr b bp vs) (e : Ev l H H') : Dn H' p al pr b bp vs := ⟨e.obj h.hp (fun i q => by simp at q), e.kp.l _ _ h.rep.items h.hb, h.rep.ev e, h.d⟩
theorem Dn.blk {H : Hp} {p bp : Addr} {al pr : Str} {b : List Stm} {vs : List V} (h : Dn H p al pr b bp vs) : Rep false H (.ref bp) (.n (encL b)) := Rep.seqIff.mpr ⟨bp, vs, rfl, .inr ⟨rfl, h.hb⟩, h.rep⟩
def spWritten : Sp := fun vs H Q _ => ∃ (p bp : Addr) (al pr : Str) (b : List Stm) (us : List V), vs = [.ref p] ∧ Dn H p al pr b bp us ∧ ∀ (q : Addr) (ys : List Str) (H' : Hp), Ev [] H H' → H' q = some (.lst (ys.map V.str)) → ys.map tl = hdr al pr :: blk [] b → Q (.ref q) H'
theorem ok_written (F : Fun K "_law_written" "_law_written" s__law_written f fd) (T : Gw mg Ra Aa Ba Ca) (C__law_lines : Cl P w K mg base "_law_lines" 38 ["body", "indent"] (spLines 31)) : FnOk P w K mg base CX0 39 f fd ["drawn"] spWritten := by
  refine F.ok sc__law_written (fun vs H Q E h => ?_) (fun cdv A outer s H vs Q E hr h => ?_)
  · obtain ⟨p, bp, al, pr, b, us, rfl, _⟩ := h
    rfl
  obtain ⟨p, bp, al, pr, b, us, rfl, hD, q⟩ := h
  refine ⟨_, (pss_one (ps_ret (pe_op op_cat (pe_lst (pa_cons (pe_op op_add_str (pe_op op_add_str (pe_op op_add_str pe_str (pe_ix (r := rIxL K) ix_list (pv 0) pe_int (fun _ _ => rfl))) pe_str) (pe_ix (r := rIxL K) ix_list (pv 0) pe_int (fun _ _ => rfl))) pa_nil)) (pe_call C__law_lines.ok (hr.mono (by omega)) (by rfl) C__law_lines.mg C__law_lines.kp C__law_lines.b .nil pass0 (pa_cons (pe_ix (r := rIxL K) ix_list (pv 0) pe_int (fun _ _ => rfl)) (pa_cons pe_str pa_nil)))))), ?_⟩
  walk_at "rd"
  have hal := hD.d.hal.hi
  have hpr := hD.d.hpr.hi
  rw [len_tl] at hal hpr
  have crp := c_rp
  refine ⟨_, SqL.of hD.hp, _, at0, al, rfl, ?_, ?_, _, SqL.of hD.hp, _, at1, pr, rfl, ?_, by decide, fun p1 hp1 => ?_⟩
  · simp only [len_tl, tl_append, List.length_append, crp.1, szl]; omega
  · simp only [len_tl, tl_append, List.length_append, crp.1, crp.2, szl]; omega
  · simp only [len_tl, tl_append, List.length_append, crp.1, crp.2, szl]; omega
  have e1 : Ev [] H (upd H p1 (.lst [.str (Str.ofString "reads " ++ al ++ Str.ofString " prints " ++ pr)])) := Ev.new hp1 _
  have g1 : (upd H p1 (.lst [.str (Str.ofString "reads " ++ al ++ Str.ofString " prints " ++ pr)])) p1 = some (.lst ([Str.ofString "reads " ++ al ++ Str.ofString " prints " ++ pr].map V.str)) := upd_same
  have hD1 := hD.ev e1
  generalize upd H p1 (.lst [.str (Str.ofString "reads " ++ al ++ Str.ofString " prints " ++ pr)]) = H1 at *
  have hdep := hD.d.dep
  have h0 : (Str.ofString "").length = 0 := by decide +kernel
  have hcost := all_cost hD.d
  refine ⟨_, SqL.of hD1.hp, _, at2, bp, us, b, _, rfl, .inr hD1.hb, hD1.rep, hD.d.sh, by omega, by rw [h0]; omega, hD.d.wt, fun p2 ys2 H2 e2 hp2 hl2 hy2 => ⟨p2, rfl, _, Strs.ev g1 e2, _, hl2, ?_, fun p3 hp3 => ?_⟩⟩
  · rw [tl_empty] at hy2
    have h1 := congrArg List.length hy2
    have h2 := cost_len (hdr al pr :: blk [] b)
    rw [List.length_cons, ← hy2, List.length_map] at h2
    rw [List.length_map, List.length_map, List.length_singleton, szl]
    rw [hy2] at h2
    omega
  · refine q p3 ([Str.ofString "reads " ++ al ++ Str.ofString " prints " ++ pr] ++ ys2) _ ((e1.trans e2).trans (Ev.new hp3 _)) (by rw [upd_same, cat_map]) ?_
    rw [List.map_append, hy2, tl_empty]
    simp [hdr, tl_append]
structure Pg (K : PySem.W.Frag) (H : Hp) (o : Addr) (al pr : Str) (b : List Stm) : Prop where
  ex : ∃ (C dx : Addr) (vb vp : V), PCls K C ∧ H o = some (.ins C dx [(Str.ofString "reads", .str al), (Str.ofString "prints", .str pr), (Str.ofString "block", vb), (Str.ofString "spots", vp)]) ∧ Rep true H vb (.n (encL b))
def spKeeps (K : PySem.W.Frag) : Sp := fun vs H Q _ => ∃ (o p bp : Addr) (al pr : Str) (b : List Stm) (us : List V), vs = [.ref o, .ref p] ∧ Dn H p al pr b bp us ∧ Pg K H o al pr b ∧ ∀ H', Ev [] H H' → Q (.bl true) H'
theorem ok_keeps (F : Fun K "_law_keeps" "_law_keeps" s__law_keeps f fd) (T : Gw mg Ra Aa Ba Ca) (C__law_same : Cl P w K mg base "_law_same" 73 ["told", "due"] (spSame 71)) (C__law_frozen : Cl P w K mg base "_law_frozen" 71 ["value"] (spFrozen 70)) : FnOk P w K mg base CX0 74 f fd ["made", "drawn"] (spKeeps K) := by
  refine F.ok sc__law_keeps (fun vs H Q E h => ?_) (fun cdv A outer s H vs Q E hr h => ?_)
  · obtain ⟨o, p, bp, al, pr, b, us, rfl, _⟩ := h
    rfl
  obtain ⟨o, p, bp, al, pr, b, us, rfl, hD, ⟨C, dx, vb, vp, cC, ho, hR⟩, q⟩ := h
  refine ⟨_, (pss_one (ps_ret (pe_call C__law_same.ok (hr.mono (by omega)) (by rfl) C__law_same.mg C__law_same.kp C__law_same.b .nil pass0 (pa_cons (pe_tup (pa_cons (pe_fld (pv 0) rfl) (pa_cons (pe_fld (pv 0) rfl) (pa_cons (pe_fld (pv 0) rfl) pa_nil)))) (pa_cons (pe_tup (pa_cons (pe_ix (r := rIxL K) ix_list (pv 1) pe_int (fun _ _ => rfl)) (pa_cons (pe_ix (r := rIxL K) ix_list (pv 1) pe_int (fun _ _ => rfl)) (pa_cons (pe_call C__law_frozen.ok (hr.mono (by omega)) (by rfl) C__law_frozen.mg C__law_frozen.kp C__law_frozen.b .nil pass0 (pa_cons (pe_ix (r := rIxL K) ix_list (pv 1) pe_int (fun _ _ => rfl)) pa_nil)) pa_nil)))) pa_nil))))), ?_⟩
  walk_at "rd"
  refine ⟨C, dx, _, ho, cC.1, cC.2.1, .str al, rfl, C, dx, _, ho, cC.1, cC.2.2.1, .str pr, rfl, C, dx, _, ho, cC.1, cC.2.2.2.1, vb, rfl, by decide, fun p1 hp1 => ?_⟩
  have e1 : Ev [] H (upd H p1 (.tup [.str al, .str pr, vb])) := Ev.new hp1 _
  have g1 : (upd H p1 (.tup [.str al, .str pr, vb])) p1 = some (.tup [.str al, .str pr, vb]) := upd_same
  have hD1 := hD.ev e1
  have hR1 := hR.ev e1
  generalize upd H p1 (.tup [.str al, .str pr, vb]) = H1 at *
  refine ⟨_, SqL.of hD1.hp, _, at0, _, SqL.of hD1.hp, _, at1, _, SqL.of hD1.hp, _, at2, .ref bp, _, rfl, hD1.blk, hD.d.dp, hD.d.fit, fun v2 H2 e2 r2 => ⟨by decide, fun p3 hp3 => ?_⟩⟩
  have g2 := e2.s0 _ _ g1
  have hR2 := hR1.ev e2
  have m3 := same_new hp3 (.tup [.str al, .str pr, v2])
  have g3 : (upd H2 p3 (.tup [.str al, .str pr, v2])) p3 = some (.tup [.str al, .str pr, v2]) := upd_same
  refine ⟨.ref p1, .ref p3, .n [.s al, .s pr, .n (encL b)], rfl, Rep.seqIff.mpr ⟨p1, _, rfl, .inl (m3 _ _ g2), .cons (Rep.strIff.mpr rfl) (.cons (Rep.strIff.mpr rfl) (.one (hR2.same m3)))⟩, Rep.seqIff.mpr ⟨p3, _, rfl, .inl g3, .cons (Rep.strIff.mpr rfl) (.cons (Rep.strIff.mpr rfl) (.one (r2.same m3)))⟩, ?_, ?_, q _ ((e1.trans e2).trans (Ev.new hp3 _))⟩
  · have := hD.d.dp
    simp only [D.dep_n, D.depL, D.dep] at this ⊢
    omega
  · have := hD.d.fit
    unfold D.fit
    refine ⟨by rw [szl]; simp, ?_⟩
    simp only [D.fitL]
    exact ⟨by unfold D.fit; trivial, by unfold D.fit; trivial, this, trivial⟩
structure Cm (P : Program) (w : World) (K : PySem.W.Frag) (mg : Str → Option Value) (base : Heap) where
  C : Addr
  f : Addr
  fd : FuncData
  ok : FnOk P w K mg base CX0 7 f fd ["self", "reads", "prints", "block"] (spInit K)
  b : Binds K fd ["self", "reads", "prints", "block"] []
  kb : KBn K fd ["self", "reads", "prints", "block"] 1 ["block", "prints", "reads"] (fun us ws => us ++ ws.reverse) (fun vs zs => vs ++ zs.reverse)
  M : Mk K C f
  mg : mg "Program" = some (.ref C)
  pc : PCls K C
def spLaw (K : PySem.W.Frag) : Sp := fun vs H Q _ => ∃ (a : Addr) (ns : List Int), vs = [.ref a] ∧ SqL K H a (ns.map V.int) ∧ ns.length ≤ 63 ∧ ∀ H', Q (.bl true) H'
theorem Ev.drop {a : Addr} {H H' : Hp} (e : Ev [a] H H') (h : H a = none) : Ev [] H H' := fun b o q => by
  rcases e b o q with k | ⟨hm, _⟩
  · exact .inl k
  · rw [List.mem_singleton.mp hm, h] at q
    cases q
theorem Pg.ev {K : PySem.W.Frag} {H H' : Hp} {l : List Addr} {o : Addr} {al pr : Str} {b : List Stm} (h : Pg K H o al pr b) (e : Ev l H H') : Pg K H' o al pr b := by
  obtain ⟨C, dx, vb, vp, cC, ho, hR⟩ := h
  exact ⟨C, dx, vb, vp, cC, e.obj ho (fun i q => by cases q), hR.ev e⟩
theorem ys_eq {ys zs : List Str} (h : ys.map tl = zs.map tl) : ys = zs := by
  induction ys generalizing zs with
  | nil =>
    cases zs with
    | nil => rfl
    | cons z r => cases h
  | cons y r ih =>
    cases zs with
    | nil => cases h
    | cons z r2 =>
      rw [List.map_cons, List.map_cons, List.cons.injEq] at h
      rw [tl_ext h.1, ih h.2]
theorem ok_law (F : Fun K "law" "law" s_law f fd) (T : Gw mg Ra Aa Ba Ca) (CM : Cm P w K mg base) {ff : Addr} {ffd : FuncData} (C__law_row : Cl P w K mg base "_law_row" 2 ["script", "first", "many"] (spRow K)) (C__law_draw : Cl P w K mg base "_law_draw" 1 ["row", "at", "size"] spDraw) (C__law_nest_program : Cl P w K mg base "_law_nest_program" 34 ["row", "at", "top"] spProg)
    (C__law_thawed : Cl P w K mg base "_law_thawed" 72 ["value", "kind", "row", "at"] (spThawed 70)) (C__law_written : Cl P w K mg base "_law_written" 39 ["drawn"] spWritten) (C__law_same : Cl P w K mg base "_law_same" 73 ["told", "due"] (spSame 71)) (C__law_keeps : Cl P w K mg base "_law_keeps" 74 ["made", "drawn"] (spKeeps K))
    (C_format_program : Cl P w K mg base "format_program" 3 ["program"] (spFormat K)) (kbF : KBn K C_format_program.fd ["program"] 0 ["program"] (fun _ ws => ws) (fun _ zs => zs)) : FnOk P w K mg base CX0 75 f fd ["script"] (spLaw K) := by
  refine F.ok sc_law (fun vs H Q E h => ?_) (fun cdv A outer s H vs Q E hr h => ?_)
  · obtain ⟨a, ns, rfl, _⟩ := h
    rfl
  obtain ⟨sa, ns, rfl, hs, hn, q⟩ := h
  refine ⟨_, (pss_cons (ps_set (i := 1) sc_law.nd rfl (by first | exact Or.inl rfl | exact Or.inr rfl) (pe_call C__law_nest_program.ok (hr.mono (by omega)) (by rfl) C__law_nest_program.mg C__law_nest_program.kp C__law_nest_program.b .nil pass0 (pa_cons (pe_call C__law_row.ok (hr.mono (by omega)) (by rfl) C__law_row.mg C__law_row.kp C__law_row.b .nil pass0 (pa_cons (pv 0) (pa_cons pe_int (pa_cons pe_int pa_nil)))) (pa_cons (pe_lst (pa_cons pe_int pa_nil)) (pa_cons pe_int pa_nil)))))
        (pss_cons (ps_set (i := 2) sc_law.nd rfl (by first | exact Or.inl rfl | exact Or.inr rfl) (pe_call C__law_nest_program.ok (hr.mono (by omega)) (by rfl) C__law_nest_program.mg C__law_nest_program.kp C__law_nest_program.b .nil pass0 (pa_cons (pe_call C__law_row.ok (hr.mono (by omega)) (by rfl) C__law_row.mg C__law_row.kp C__law_row.b .nil pass0 (pa_cons (pv 0) (pa_cons pe_int (pa_cons pe_int pa_nil)))) (pa_cons (pe_lst (pa_cons pe_int pa_nil)) (pa_cons pe_int pa_nil)))))
        (pss_cons (ps_set (i := 3) sc_law.nd rfl (by first | exact Or.inl rfl | exact Or.inr rfl) (pe_call C__law_row.ok (hr.mono (by omega)) (by rfl) C__law_row.mg C__law_row.kp C__law_row.b .nil pass0 (pa_cons (pv 0) (pa_cons pe_int (pa_cons pe_int pa_nil)))))
        (pss_cons (ps_set (i := 4) sc_law.nd rfl (by first | exact Or.inl rfl | exact Or.inr rfl) (pe_lst (pa_cons pe_int pa_nil)))
        (pss_cons (ps_set (i := 5) sc_law.nd rfl (by first | exact Or.inl rfl | exact Or.inr rfl) (pe_make CM.M CM.ok (hr.mono (by omega)) (by rfl) CM.mg CM.b .nil pass0 (pa_cons (pe_ix (r := rIxL K) ix_list (pv 1) pe_int (fun _ _ => rfl)) (pa_cons (pe_ix (r := rIxL K) ix_list (pv 1) pe_int (fun _ _ => rfl)) (pa_cons (pe_call C__law_thawed.ok (hr.mono (by omega)) (by rfl) C__law_thawed.mg C__law_thawed.kp C__law_thawed.b .nil pass0 (pa_cons (pe_ix (r := rIxL K) ix_list (pv 1) pe_int (fun _ _ => rfl)) (pa_cons pe_int (pa_cons (pv 3) (pa_cons (pv 4) pa_nil))))) pa_nil)))))
        (pss_cons (ps_set (i := 6) sc_law.nd rfl (by first | exact Or.inl rfl | exact Or.inr rfl) (pe_makeK0 CM.M CM.ok (hr.mono (by omega)) (by rfl) CM.mg CM.kb pass0 (pk_cons (pe_call C__law_thawed.ok (hr.mono (by omega)) (by rfl) C__law_thawed.mg C__law_thawed.kp C__law_thawed.b .nil pass0 (pa_cons (pe_ix (r := rIxL K) ix_list (pv 2) pe_int (fun _ _ => rfl)) (pa_cons (pe_call C__law_draw.ok (hr.mono (by omega)) (by rfl) C__law_draw.mg C__law_draw.kp C__law_draw.b .nil pass0 (pa_cons (pv 3) (pa_cons (pv 4) (pa_cons pe_int pa_nil)))) (pa_cons (pv 3) (pa_cons (pv 4) pa_nil))))) (pk_cons (pe_ix (r := rIxL K) ix_list (pv 2) pe_int (fun _ _ => rfl)) (pk_cons (pe_ix (r := rIxL K) ix_list (pv 2) pe_int (fun _ _ => rfl)) pk_nil)))))
        (pss_cons (ps_set (i := 7) sc_law.nd rfl (by first | exact Or.inl rfl | exact Or.inr rfl) (pe_join pe_str (pe_call C__law_written.ok (hr.mono (by omega)) (by rfl) C__law_written.mg C__law_written.kp C__law_written.b .nil pass0 (pa_cons (pv 1) pa_nil))))
        (pss_cons (ps_set (i := 8) sc_law.nd rfl (by first | exact Or.inl rfl | exact Or.inr rfl) (pe_join pe_str (pe_call C__law_written.ok (hr.mono (by omega)) (by rfl) C__law_written.mg C__law_written.kp C__law_written.b .nil pass0 (pa_cons (pv 2) pa_nil))))
        (pss_cons (ps_for PassesOwn.never (by rfl) (pi_range1 (by rfl) T.b_range (pa_cons pe_int pa_nil)) (pg_name (i := 9) sc_law.nd rfl (by first | exact Or.inl rfl | exact Or.inr rfl)) (pss_one (ps_if (PW.pt (pw_or (pt_not (pt_val (pe_call C__law_same.ok (hr.mono (by omega)) (by rfl) C__law_same.mg C__law_same.kp C__law_same.b .nil pass0 (pa_cons (pe_call C_format_program.ok (hr.mono (by omega)) (by rfl) C_format_program.mg C_format_program.kp C_format_program.b .nil pass0 (pa_cons (pv 5) pa_nil)) (pa_cons (pv 7) pa_nil))))) (pw_or1 (pt_not (pt_val (pe_call C__law_same.ok (hr.mono (by omega)) (by rfl) C__law_same.mg C__law_same.kp C__law_same.b .nil pass0 (pa_cons (pe_callK0 C_format_program.ok (hr.mono (by omega)) (by rfl) C_format_program.mg C_format_program.kp kbF pass0 (pk_cons (pv 6) pk_nil)) (pa_cons (pv 8) pa_nil)))))))) (pss_one (ps_ret pe_bl)) pss_nil)))
        (pss_one (ps_ret (pe_and (pe_call C__law_keeps.ok (hr.mono (by omega)) (by rfl) C__law_keeps.mg C__law_keeps.kp C__law_keeps.b .nil pass0 (pa_cons (pv 5) (pa_cons (pv 1) pa_nil))) (pe_one (pe_call C__law_keeps.ok (hr.mono (by omega)) (by rfl) C__law_keeps.mg C__law_keeps.kp C__law_keeps.b .nil pass0 (pa_cons (pv 6) (pa_cons (pv 2) pa_nil)))))))))))))))), ?_⟩
  refine cut (fun σ H' => ∃ (p1 bp1 : Addr) (al1 pr1 : Str) (b1 : List Stm) (us1 : List V), σ = [some (.ref sa), some (.ref p1), none, none, none, none, none, none, none, none] ∧ Dn H' p1 al1 pr1 b1 bp1 us1 ∧ Ev [] H H') (fun N hN => ?_) ?_
  · walk_at "rd"
    refine ⟨sa, ns, 0, 5, rfl, hs, by omega, by omega, by omega, by omega, fun r0 rs H1 s1 h1 l1 => ⟨by decide, fun a0 ha0 => ?_⟩⟩
    have e1 : Ev [] H H1 := Ev.of_same s1
    refine ⟨r0, a0, rfl, ⟨⟨rs, (upd_ne (ne_of_none h1 ha0)).trans h1, by rw [l1]; omega⟩, 0, upd_same⟩, fun p bp al pr vs b H2 e2 hp hpf hbp hbf hR hD => ?_⟩
    have e3 : Ev [a0] H H2 := ((e1.trans (Ev.new ha0 _)).mono (by simp)).trans e2
    exact hN _ _ ⟨p, bp, al, pr, b, vs, rfl, ⟨hp, hbp, hR.ofMx, hD⟩, e3.drop (e1.free ha0)⟩
  rintro σ H1 ⟨p1, bp1, al1, pr1, b1, us1, rfl, D1, e1⟩
  refine cut (fun σ H' => ∃ (p2 bp2 : Addr) (al2 pr2 : Str) (b2 : List Stm) (us2 : List V), σ = [some (.ref sa), some (.ref p1), some (.ref p2), none, none, none, none, none, none, none] ∧ Dn H' p2 al2 pr2 b2 bp2 us2 ∧ Dn H' p1 al1 pr1 b1 bp1 us1 ∧ Ev [] H H') (fun N hN => ?_) ?_
  · walk_at "rd"
    refine ⟨sa, ns, 5, 5, rfl, e1.s0.seq hs, by omega, by omega, by omega, by omega, fun r0 rs H2 s2 h2 l2 => ⟨by decide, fun a0 ha0 => ?_⟩⟩
    have e2 : Ev [] H1 H2 := Ev.of_same s2
    refine ⟨r0, a0, rfl, ⟨⟨rs, (upd_ne (ne_of_none h2 ha0)).trans h2, by rw [l2]; omega⟩, 0, upd_same⟩, fun p bp al pr vs b H3 e3 hp hpf hbp hbf hR hD => ?_⟩
    have e4 : Ev [a0] H1 H3 := ((e2.trans (Ev.new ha0 _)).mono (by simp)).trans e3
    have e5 := e4.drop (e2.free ha0)
    exact hN _ _ ⟨p, bp, al, pr, b, vs, rfl, ⟨hp, hbp, hR.ofMx, hD⟩, D1.ev e5, e1.trans e5⟩
  rintro σ H2 ⟨p2, bp2, al2, pr2, b2, us2, rfl, D2, D1, e2⟩
  refine cut (fun σ H' => ∃ (r0 : Addr) (rs : List Int), σ = [some (.ref sa), some (.ref p1), some (.ref p2), some (.ref r0), none, none, none, none, none, none] ∧ H' r0 = some (.lst (rs.map V.int)) ∧ rs.length = 120 ∧ Dn H' p2 al2 pr2 b2 bp2 us2 ∧ Dn H' p1 al1 pr1 b1 bp1 us1) (fun N hN => ?_) ?_
  · walk_at "rd"
    exact ⟨sa, ns, 10, 2, rfl, e2.s0.seq hs, by omega, by omega, by omega, by omega, fun r0 rs H3 s3 h3 l3 => hN _ _ ⟨r0, rs, rfl, h3, l3, D2.ev (Ev.of_same (l := []) s3), D1.ev (Ev.of_same (l := []) s3)⟩⟩
  rintro σ H3 ⟨r0, rs, rfl, hr0, hrl, D2, D1⟩
  refine cut (fun σ H' => ∃ (a0 : Addr), σ = [some (.ref sa), some (.ref p1), some (.ref p2), some (.ref r0), some (.ref a0), none, none, none, none, none] ∧ Dr H' r0 a0 ∧ Dn H' p2 al2 pr2 b2 bp2 us2 ∧ Dn H' p1 al1 pr1 b1 bp1 us1) (fun N hN => ?_) ?_
  · walk_at "rd"
    refine ⟨by decide, fun a0 ha0 => hN _ _ ⟨a0, rfl, ⟨⟨rs, (upd_ne (ne_of_none hr0 ha0)).trans hr0, by omega⟩, 0, upd_same⟩, D2.ev (Ev.new (l := []) ha0 _), D1.ev (Ev.new (l := []) ha0 _)⟩⟩
  rintro σ H4 ⟨a0, rfl, dr4, D2, D1⟩
  have mk : ∀ {H4 H5 : Hp} {b : List Stm} {al pr : Str} {v : V}, Rep false H5 v (.n (encL b)) → Drawn al pr b → ∀ (Q2 : Addr → Hp → Prop) (x dx : Addr), H5 x = none → H5 dx = none → dx ≠ x → (∀ H6, Ev [] H5 H6 → Pg K H6 x al pr b → Q2 x H6) → spInit K [.ref x, .str al, .str pr, v] (upd (upd H5 dx (.own x)) x (.ins CM.C dx [])) (fun v H3 => v = .non ∧ Q2 x H3) E0 := by
    intro H4 H5 b al pr v hR hD Q2 x dx hx hdx hne hq
    have m1 : Same H5 (upd (upd H5 dx (.own x)) x (.ins CM.C dx [])) := fun b u e => (upd_ne (ne_of_none e hx)).trans ((same_new hdx (.own x)) _ _ e)
    refine ⟨x, CM.C, dx, v, b, al, pr, rfl, CM.pc, upd_same, hR.same m1, hD, fun vb vp H6 h6 r6 k6 => ⟨rfl, hq H6 (Ev.of_same fun b u e => k6 b u (ne_of_none e hx) (m1 _ _ e)) ⟨CM.C, dx, vb, vp, CM.pc, h6, r6⟩⟩⟩
  refine cut (fun σ H' => ∃ (o1 : Addr), σ = [some (.ref sa), some (.ref p1), some (.ref p2), some (.ref r0), some (.ref a0), some (.ref o1), none, none, none, none] ∧ Pg K H' o1 al1 pr1 b1 ∧ Dr H' r0 a0 ∧ Dn H' p2 al2 pr2 b2 bp2 us2 ∧ Dn H' p1 al1 pr1 b1 bp1 us1) (fun N hN => ?_) ?_
  · walk_at "rd"
    refine ⟨_, SqL.of D1.hp, _, at0, _, SqL.of D1.hp, _, at1, _, SqL.of D1.hp, _, at2, .ref bp1, _, 2, r0, a0, rfl, D1.blk, D1.d.dp, D1.d.fit, dr4, fun v5 H5 e5 r5 x dx hx hdx hne => ?_⟩
    exact mk (H4 := H4) r5.ofMx D1.d (fun x H3 => N _ H3) x dx hx hdx hne fun H6 e6 g6 => hN _ _ ⟨x, rfl, g6, (dr4.ev e5).ev e6, (D2.ev e5).ev e6, (D1.ev e5).ev e6⟩
  rintro σ H5 ⟨o1, rfl, P1, dr5, D2, D1⟩
  refine cut (fun σ H' => ∃ (o2 : Addr), σ = [some (.ref sa), some (.ref p1), some (.ref p2), some (.ref r0), some (.ref a0), some (.ref o1), some (.ref o2), none, none, none] ∧ Pg K H' o2 al2 pr2 b2 ∧ Pg K H' o1 al1 pr1 b1 ∧ Dn H' p2 al2 pr2 b2 bp2 us2 ∧ Dn H' p1 al1 pr1 b1 bp1 us1) (fun N hN => ?_) ?_
  · walk_at "rd"
    refine ⟨_, SqL.of D2.hp, _, at2, r0, a0, 3, rfl, dr5, by omega, fun kd H6 k0 k1 e6 => ?_⟩
    have D2' := D2.ev e6
    refine ⟨.ref bp2, _, kd, r0, a0, rfl, D2'.blk, D2.d.dp, D2.d.fit, dr5.ev e6, fun v7 H7 e7 r7 => ?_⟩
    have D2'' := D2'.ev e7
    refine ⟨_, SqL.of D2''.hp, _, at1, _, SqL.of D2''.hp, _, at0, fun x dx hx hdx hne => ?_⟩
    exact mk (H4 := H5) r7.ofMx D2.d (fun x H3 => N _ H3) x dx hx hdx hne fun H8 e8 g8 => hN _ _ ⟨x, rfl, g8, ((P1.ev e6).ev e7).ev e8, D2''.ev e8, ((D1.ev e6).ev e7).ev e8⟩
  rintro σ H6 ⟨o2, rfl, P2, P1, D2, D1⟩
  refine cut (fun σ H' => ∃ (zs : List Str), σ = [some (.ref sa), some (.ref p1), some (.ref p2), some (.ref r0), some (.ref a0), some (.ref o1), some (.ref o2), some (.str (Txt.join (Str.ofString "\n") zs)), none, none] ∧ zs.map tl = hdr al1 pr1 :: blk [] b1 ∧ Pg K H' o2 al2 pr2 b2 ∧ Pg K H' o1 al1 pr1 b1 ∧ Dn H' p2 al2 pr2 b2 bp2 us2 ∧ Dn H' p1 al1 pr1 b1 bp1 us1) (fun N hN => ?_) ?_
  · walk_at "rd"
    refine ⟨p1, bp1, al1, pr1, b1, us1, rfl, D1, fun q0 ys H7 e7 h7 t7 => ⟨q0, rfl, ys, .inl (SqL.of h7), join_ok t7 (all_cost D1.d), hN _ _ ⟨ys, rfl, t7, P2.ev e7, P1.ev e7, D2.ev e7, D1.ev e7⟩⟩⟩
  rintro σ H7 ⟨z1, rfl, t1, P2, P1, D2, D1⟩
  refine cut (fun σ H' => ∃ (zs : List Str), σ = [some (.ref sa), some (.ref p1), some (.ref p2), some (.ref r0), some (.ref a0), some (.ref o1), some (.ref o2), some (.str (Txt.join (Str.ofString "\n") z1)), some (.str (Txt.join (Str.ofString "\n") zs)), none] ∧ zs.map tl = hdr al2 pr2 :: blk [] b2 ∧ Pg K H' o2 al2 pr2 b2 ∧ Pg K H' o1 al1 pr1 b1 ∧ Dn H' p2 al2 pr2 b2 bp2 us2 ∧ Dn H' p1 al1 pr1 b1 bp1 us1) (fun N hN => ?_) ?_
  · walk_at "rd"
    refine ⟨p2, bp2, al2, pr2, b2, us2, rfl, D2, fun q0 ys H7 e7 h7 t7 => ⟨q0, rfl, ys, .inl (SqL.of h7), join_ok t7 (all_cost D2.d), hN _ _ ⟨ys, rfl, t7, P2.ev e7, P1.ev e7, D2.ev e7, D1.ev e7⟩⟩⟩
  rintro σ H8 ⟨z2, rfl, t2, P2, P1, D2, D1⟩
  refine cut (fun σ H' => ∃ (c : Option V), σ = [some (.ref sa), some (.ref p1), some (.ref p2), some (.ref r0), some (.ref a0), some (.ref o1), some (.ref o2), some (.str (Txt.join (Str.ofString "\n") z1)), some (.str (Txt.join (Str.ofString "\n") z2)), c] ∧ Pg K H' o2 al2 pr2 b2 ∧ Pg K H' o1 al1 pr1 b1 ∧ Dn H' p2 al2 pr2 b2 bp2 us2 ∧ Dn H' p1 al1 pr1 b1 bp1 us1) (fun N hN => ?_) ?_
  · refine ⟨2, rfl, by omega, by omega, for_range (lo := 0) (n := 2) (fun i σ H' => ∃ (c : Option V), σ = [some (.ref sa), some (.ref p1), some (.ref p2), some (.ref r0), some (.ref a0), some (.ref o1), some (.ref o2), some (.str (Txt.join (Str.ofString "\n") z1)), some (.str (Txt.join (Str.ofString "\n") z2)), c] ∧ Pg K H' o2 al2 pr2 b2 ∧ Pg K H' o1 al1 pr1 b1 ∧ Dn H' p2 al2 pr2 b2 bp2 us2 ∧ Dn H' p1 al1 pr1 b1 bp1 us1) ⟨none, rfl, P2, P1, D2, D1⟩ ?_ ?_⟩
    · rintro i σ H9 hi ⟨c, rfl, P2, P1, D2, D1⟩
      obtain ⟨C1, dx1, vb1, vp1, cC1, ho1, hR1⟩ := P1
      walk_at "rd"
      refine ⟨o1, C1, dx1, vb1, vp1, b1, al1, pr1, rfl, cC1, ho1, hR1, D1.d, fun y1 H10 e10 t10 => ?_⟩
      have hy1 : y1 = z1 := ys_eq (t10.trans t1.symm)
      subst hy1
      refine ⟨.str _, .str _, .s _, rfl, Rep.strIff.mpr rfl, Rep.strIff.mpr rfl, by unfold D.dep; omega, by unfold D.fit; trivial, true, rfl, ?_⟩
      rw [if_neg (by decide)]
      have P2' := P2.ev e10
      have P1' : Pg K H10 o1 al1 pr1 b1 := Pg.ev ⟨C1, dx1, vb1, vp1, cC1, ho1, hR1⟩ e10
      obtain ⟨C2, dx2, vb2, vp2, cC2, ho2, hR2⟩ := P2'
      refine ⟨o2, C2, dx2, vb2, vp2, b2, al2, pr2, rfl, cC2, ho2, hR2, D2.d, fun y2 H11 e11 t11 => ?_⟩
      have hy2 : y2 = z2 := ys_eq (t11.trans t2.symm)
      subst hy2
      refine ⟨.str _, .str _, .s _, rfl, Rep.strIff.mpr rfl, Rep.strIff.mpr rfl, by unfold D.dep; omega, by unfold D.fit; trivial, true, rfl, ?_⟩
      rw [if_neg (by decide)]
      exact ⟨Pg.ev ⟨C2, dx2, vb2, vp2, cC2, ho2, hR2⟩ e11, P1'.ev e11, (D2.ev e10).ev e11, (D1.ev e10).ev e11⟩
    · rintro σ H9 ⟨c, rfl, P2, P1, D2, D1⟩
      exact hN _ _ ⟨c, rfl, P2, P1, D2, D1⟩
  rintro σ H9 ⟨c, rfl, P2, P1, D2, D1⟩
  walk_at "rd"
  refine ⟨o1, p1, bp1, al1, pr1, b1, us1, rfl, D1, P1, fun H10 e10 => ⟨true, rfl, ?_⟩⟩
  rw [if_pos rfl]
  exact ⟨o2, p2, bp2, al2, pr2, b2, us2, rfl, D2.ev e10, P2.ev e10, fun H11 e11 => q H11⟩
end
end TW
/-! A1 -/
set_option Elab.async false
set_option linter.all false
set_option maxRecDepth 100000
set_option maxHeartbeats 8000000
namespace TW
open PySem PySem.W PyProof.Rows L2 TL
def RV (o : Obj) : Prop := o.cls = .type "tuple" ∧ ∃ (its : Array Value) (n : Nat), o.data = .seq its n ∧ its.size ≤ sizeLine ∧ Vals (resv.map V.str) its.toList
theorem all_mk {l : PySem.W.OpenLaw} {w : World} {K : PySem.W.Frag} {h : Heap} {mg : Str → Option Value} {fa C Ra Aa Ba Ca f1 f2 f3 f4 f5 f6 f7 f8 f9 f10 f11 f12 f13 f14 f15 f16 f17 f18 f19 f20 f21 f22 f23 f24 f25 f26 f27 f28 f29 f30 f31 f32 f33 f34 f35 f36 f37 f38 f39 f40 f41 f42 f43 f44 f45 f46 f47 f48 f49 f50 f51 f52 f53 f54 f55 : Addr} {od1 an1 od2 an2 od3 an3 od4 an4 od5 an5 od6 an6 od7 an7 od8 an8 od9 an9 od10 an10 od11 an11 od12 an12 od13 an13 od14 an14 od15 an15 od16 an16 od17 an17 od18 an18 od19 an19 od20 an20 od21 an21 od22 an22 od23 an23 od24 an24 od25 an25 od26 an26 od27 an27 od28 an28 od29 an29 od30 an30 od31 an31 od32 an32 od33 an33 od34 an34 od35 an35 od36 an36 od37 an37 od38 an38 od39 an39 od40 an40 od41 an41 od42 an42 od43 an43 od44 an44 od45 an45 od46 an46 od47 an47 od48 an48 od49 an49 od50 an50 od51 an51 od52 an52 od53 an53 od54 an54 od55 an55 : Option Addr} {sl1 sl2 sl3 sl4 sl5 sl6 sl7 sl8 sl9 sl10 sl11 sl12 sl13 sl14 sl15 sl16 sl17 sl18 sl19 sl20 sl21 sl22 sl23 sl24 sl25 sl26 sl27 sl28 sl29 sl30 sl31 sl32 sl33 sl34 sl35 sl36 sl37 sl38 sl39 sl40 sl41 sl42 sl43 sl44 sl45 sl46 sl47 sl48 sl49 sl50 sl51 sl52 sl53 sl54 sl55 : Array (Option Value)} {oc1 kV1 dc1 pm1 cd1 ct1 oc2 kV2 dc2 pm2 cd2 ct2 oc3 kV3 dc3 pm3 cd3 ct3 oc4 kV4 dc4 pm4 cd4 ct4 oc5 kV5 dc5 pm5 cd5 ct5 oc6 kV6 dc6 pm6 cd6 ct6 oc7 kV7 dc7 pm7 cd7 ct7 oc8 kV8 dc8 pm8 cd8 ct8 oc9 kV9 dc9 pm9 cd9 ct9 oc10 kV10 dc10 pm10 cd10 ct10 oc11 kV11 dc11 pm11 cd11 ct11 oc12 kV12 dc12 pm12 cd12 ct12 oc13 kV13 dc13 pm13 cd13 ct13 oc14 kV14 dc14 pm14 cd14 ct14 oc15 kV15 dc15 pm15 cd15 ct15 oc16 kV16 dc16 pm16 cd16 ct16 oc17 kV17 dc17 pm17 cd17 ct17 oc18 kV18 dc18 pm18 cd18 ct18 oc19 kV19 dc19 pm19 cd19 ct19 oc20 kV20 dc20 pm20 cd20 ct20 oc21 kV21 dc21 pm21 cd21 ct21 oc22 kV22 dc22 pm22 cd22 ct22 oc23 kV23 dc23 pm23 cd23 ct23 oc24 kV24 dc24 pm24 cd24 ct24 oc25 kV25 dc25 pm25 cd25 ct25 oc26 kV26 dc26 pm26 cd26 ct26 oc27 kV27 dc27 pm27 cd27 ct27 oc28 kV28 dc28 pm28 cd28 ct28 oc29 kV29 dc29 pm29 cd29 ct29 oc30 kV30 dc30 pm30 cd30 ct30 oc31 kV31 dc31 pm31 cd31 ct31 oc32 kV32 dc32 pm32 cd32 ct32 oc33 kV33 dc33 pm33 cd33 ct33 oc34 kV34 dc34 pm34 cd34 ct34 oc35 kV35 dc35 pm35 cd35 ct35 oc36 kV36 dc36 pm36 cd36 ct36 oc37 kV37 dc37 pm37 cd37 ct37 oc38 kV38 dc38 pm38 cd38 ct38 oc39 kV39 dc39 pm39 cd39 ct39 oc40 kV40 dc40 pm40 cd40 ct40 oc41 kV41 dc41 pm41 cd41 ct41 oc42 kV42 dc42 pm42 cd42 ct42 oc43 kV43 dc43 pm43 cd43 ct43 oc44 kV44 dc44 pm44 cd44 ct44 oc45 kV45 dc45 pm45 cd45 ct45 oc46 kV46 dc46 pm46 cd46 ct46 oc47 kV47 dc47 pm47 cd47 ct47 oc48 kV48 dc48 pm48 cd48 ct48 oc49 kV49 dc49 pm49 cd49 ct49 oc50 kV50 dc50 pm50 cd50 ct50 oc51 kV51 dc51 pm51 cd51 ct51 oc52 kV52 dc52 pm52 cd52 ct52 oc53 kV53 dc53 pm53 cd53 ct53 oc54 kV54 dc54 pm54 cd54 ct54 oc55 kV55 dc55 pm55 cd55 ct55 : Value} {oR : Obj} {esA esB esP : Array DictEntry} {nA nB nP : Nat} {uPb uPs : Value} {tA_in tA_before tA_same tA_mark tA_not tA_and tA_or tB_for tB_mark tB_set tB_clear tB_if tB_print tB_copy : Tok} (X : K.In h) (G : h.Ns mainGlobals mg) (hfa : mg "law" = some (.ref fa))
    (aC : PySem.W.nsIn K mainGlobals "Program" = some (some (.ref C)))
    (a1 : PySem.W.nsIn K mainGlobals "_law_draw" = some (some (.ref f1)))
    (l1 : K.lookup f1 = some ⟨oc1, od1, .func (PySem.W.fnOf "_law_draw" "_law_draw" (defArgs s__law_draw) (defBody s__law_draw) (defScope s__law_draw) .none kV1 dc1 pm1 an1 cd1 ct1), sl1⟩)
    (c1 : PySem.W.codeIn K cd1 "_law_draw" = true)
    (k1 : PySem.W.keepIn K (.ref f1) = true)
    (a2 : PySem.W.nsIn K mainGlobals "_law_cell" = some (some (.ref f2)))
    (l2 : K.lookup f2 = some ⟨oc2, od2, .func (PySem.W.fnOf "_law_cell" "_law_cell" (defArgs s__law_cell) (defBody s__law_cell) (defScope s__law_cell) .none kV2 dc2 pm2 an2 cd2 ct2), sl2⟩)
    (c2 : PySem.W.codeIn K cd2 "_law_cell" = true)
    (k2 : PySem.W.keepIn K (.ref f2) = true)
    (a3 : PySem.W.nsIn K mainGlobals "_law_digits" = some (some (.ref f3)))
    (l3 : K.lookup f3 = some ⟨oc3, od3, .func (PySem.W.fnOf "_law_digits" "_law_digits" (defArgs s__law_digits) (defBody s__law_digits) (defScope s__law_digits) .none kV3 dc3 pm3 an3 cd3 ct3), sl3⟩)
    (c3 : PySem.W.codeIn K cd3 "_law_digits" = true)
    (k3 : PySem.W.keepIn K (.ref f3) = true)
    (a4 : PySem.W.nsIn K mainGlobals "_law_row" = some (some (.ref f4)))
    (l4 : K.lookup f4 = some ⟨oc4, od4, .func (PySem.W.fnOf "_law_row" "_law_row" (defArgs s__law_row) (defBody s__law_row) (defScope s__law_row) .none kV4 dc4 pm4 an4 cd4 ct4), sl4⟩)
    (c4 : PySem.W.codeIn K cd4 "_law_row" = true)
    (k4 : PySem.W.keepIn K (.ref f4) = true)
    (a5 : PySem.W.nsIn K mainGlobals "_law_text" = some (some (.ref f5)))
    (l5 : K.lookup f5 = some ⟨oc5, od5, .func (PySem.W.fnOf "_law_text" "_law_text" (defArgs s__law_text) (defBody s__law_text) (defScope s__law_text) .none kV5 dc5 pm5 an5 cd5 ct5), sl5⟩)
    (c5 : PySem.W.codeIn K cd5 "_law_text" = true)
    (k5 : PySem.W.keepIn K (.ref f5) = true)
    (a6 : PySem.W.nsIn K mainGlobals "_law_wide" = some (some (.ref f6)))
    (l6 : K.lookup f6 = some ⟨oc6, od6, .func (PySem.W.fnOf "_law_wide" "_law_wide" (defArgs s__law_wide) (defBody s__law_wide) (defScope s__law_wide) .none kV6 dc6 pm6 an6 cd6 ct6), sl6⟩)
    (c6 : PySem.W.codeIn K cd6 "_law_wide" = true)
    (k6 : PySem.W.keepIn K (.ref f6) = true)
    (a7 : PySem.W.nsIn K mainGlobals "_law_letters_of" = some (some (.ref f7)))
    (l7 : K.lookup f7 = some ⟨oc7, od7, .func (PySem.W.fnOf "_law_letters_of" "_law_letters_of" (defArgs s__law_letters_of) (defBody s__law_letters_of) (defScope s__law_letters_of) .none kV7 dc7 pm7 an7 cd7 ct7), sl7⟩)
    (c7 : PySem.W.codeIn K cd7 "_law_letters_of" = true)
    (k7 : PySem.W.keepIn K (.ref f7) = true)
    (a8 : PySem.W.nsIn K mainGlobals "_law_wide_prints" = some (some (.ref f8)))
    (l8 : K.lookup f8 = some ⟨oc8, od8, .func (PySem.W.fnOf "_law_wide_prints" "_law_wide_prints" (defArgs s__law_wide_prints) (defBody s__law_wide_prints) (defScope s__law_wide_prints) .none kV8 dc8 pm8 an8 cd8 ct8), sl8⟩)
    (c8 : PySem.W.codeIn K cd8 "_law_wide_prints" = true)
    (k8 : PySem.W.keepIn K (.ref f8) = true)
    (a9 : PySem.W.nsIn K mainGlobals "_law_reserved" = some (some (.ref f9)))
    (l9 : K.lookup f9 = some ⟨oc9, od9, .func (PySem.W.fnOf "_law_reserved" "_law_reserved" (defArgs s__law_reserved) (defBody s__law_reserved) (defScope s__law_reserved) .none kV9 dc9 pm9 an9 cd9 ct9), sl9⟩)
    (c9 : PySem.W.codeIn K cd9 "_law_reserved" = true)
    (k9 : PySem.W.keepIn K (.ref f9) = true)
    (a10 : PySem.W.nsIn K mainGlobals "_law_pool" = some (some (.ref f10)))
    (l10 : K.lookup f10 = some ⟨oc10, od10, .func (PySem.W.fnOf "_law_pool" "_law_pool" (defArgs s__law_pool) (defBody s__law_pool) (defScope s__law_pool) .none kV10 dc10 pm10 an10 cd10 ct10), sl10⟩)
    (c10 : PySem.W.codeIn K cd10 "_law_pool" = true)
    (k10 : PySem.W.keepIn K (.ref f10) = true)
    (a11 : PySem.W.nsIn K mainGlobals "_law_part" = some (some (.ref f11)))
    (l11 : K.lookup f11 = some ⟨oc11, od11, .func (PySem.W.fnOf "_law_part" "_law_part" (defArgs s__law_part) (defBody s__law_part) (defScope s__law_part) .none kV11 dc11 pm11 an11 cd11 ct11), sl11⟩)
    (c11 : PySem.W.codeIn K cd11 "_law_part" = true)
    (k11 : PySem.W.keepIn K (.ref f11) = true)
    (a12 : PySem.W.nsIn K mainGlobals "_law_deep_test" = some (some (.ref f12)))
    (l12 : K.lookup f12 = some ⟨oc12, od12, .func (PySem.W.fnOf "_law_deep_test" "_law_deep_test" (defArgs s__law_deep_test) (defBody s__law_deep_test) (defScope s__law_deep_test) .none kV12 dc12 pm12 an12 cd12 ct12), sl12⟩)
    (c12 : PySem.W.codeIn K cd12 "_law_deep_test" = true)
    (k12 : PySem.W.keepIn K (.ref f12) = true)
    (a13 : PySem.W.nsIn K mainGlobals "_law_leaf" = some (some (.ref f13)))
    (l13 : K.lookup f13 = some ⟨oc13, od13, .func (PySem.W.fnOf "_law_leaf" "_law_leaf" (defArgs s__law_leaf) (defBody s__law_leaf) (defScope s__law_leaf) .none kV13 dc13 pm13 an13 cd13 ct13), sl13⟩)
    (c13 : PySem.W.codeIn K cd13 "_law_leaf" = true)
    (k13 : PySem.W.keepIn K (.ref f13) = true)
    (a14 : PySem.W.nsIn K mainGlobals "_law_nested" = some (some (.ref f14)))
    (l14 : K.lookup f14 = some ⟨oc14, od14, .func (PySem.W.fnOf "_law_nested" "_law_nested" (defArgs s__law_nested) (defBody s__law_nested) (defScope s__law_nested) .none kV14 dc14 pm14 an14 cd14 ct14), sl14⟩)
    (c14 : PySem.W.codeIn K cd14 "_law_nested" = true)
    (k14 : PySem.W.keepIn K (.ref f14) = true)
    (a15 : PySem.W.nsIn K mainGlobals "_law_nest" = some (some (.ref f15)))
    (l15 : K.lookup f15 = some ⟨oc15, od15, .func (PySem.W.fnOf "_law_nest" "_law_nest" (defArgs s__law_nest) (defBody s__law_nest) (defScope s__law_nest) .none kV15 dc15 pm15 an15 cd15 ct15), sl15⟩)
    (c15 : PySem.W.codeIn K cd15 "_law_nest" = true)
    (k15 : PySem.W.keepIn K (.ref f15) = true)
    (a16 : PySem.W.nsIn K mainGlobals "_law_tower" = some (some (.ref f16)))
    (l16 : K.lookup f16 = some ⟨oc16, od16, .func (PySem.W.fnOf "_law_tower" "_law_tower" (defArgs s__law_tower) (defBody s__law_tower) (defScope s__law_tower) .none kV16 dc16 pm16 an16 cd16 ct16), sl16⟩)
    (c16 : PySem.W.codeIn K cd16 "_law_tower" = true)
    (k16 : PySem.W.keepIn K (.ref f16) = true)
    (a17 : PySem.W.nsIn K mainGlobals "_law_nest_program" = some (some (.ref f17)))
    (l17 : K.lookup f17 = some ⟨oc17, od17, .func (PySem.W.fnOf "_law_nest_program" "_law_nest_program" (defArgs s__law_nest_program) (defBody s__law_nest_program) (defScope s__law_nest_program) .none kV17 dc17 pm17 an17 cd17 ct17), sl17⟩)
    (c17 : PySem.W.codeIn K cd17 "_law_nest_program" = true)
    (k17 : PySem.W.keepIn K (.ref f17) = true)
    (a18 : PySem.W.nsIn K mainGlobals "_law_frozen" = some (some (.ref f18)))
    (l18 : K.lookup f18 = some ⟨oc18, od18, .func (PySem.W.fnOf "_law_frozen" "_law_frozen" (defArgs s__law_frozen) (defBody s__law_frozen) (defScope s__law_frozen) .none kV18 dc18 pm18 an18 cd18 ct18), sl18⟩)
    (c18 : PySem.W.codeIn K cd18 "_law_frozen" = true)
    (k18 : PySem.W.keepIn K (.ref f18) = true)
    (a19 : PySem.W.nsIn K mainGlobals "_law_thawed" = some (some (.ref f19)))
    (l19 : K.lookup f19 = some ⟨oc19, od19, .func (PySem.W.fnOf "_law_thawed" "_law_thawed" (defArgs s__law_thawed) (defBody s__law_thawed) (defScope s__law_thawed) .none kV19 dc19 pm19 an19 cd19 ct19), sl19⟩)
    (c19 : PySem.W.codeIn K cd19 "_law_thawed" = true)
    (k19 : PySem.W.keepIn K (.ref f19) = true)
    (a20 : PySem.W.nsIn K mainGlobals "_law_whole" = some (some (.ref f20)))
    (l20 : K.lookup f20 = some ⟨oc20, od20, .func (PySem.W.fnOf "_law_whole" "_law_whole" (defArgs s__law_whole) (defBody s__law_whole) (defScope s__law_whole) .none kV20 dc20 pm20 an20 cd20 ct20), sl20⟩)
    (c20 : PySem.W.codeIn K cd20 "_law_whole" = true)
    (k20 : PySem.W.keepIn K (.ref f20) = true)
    (a21 : PySem.W.nsIn K mainGlobals "_law_same" = some (some (.ref f21)))
    (l21 : K.lookup f21 = some ⟨oc21, od21, .func (PySem.W.fnOf "_law_same" "_law_same" (defArgs s__law_same) (defBody s__law_same) (defScope s__law_same) .none kV21 dc21 pm21 an21 cd21 ct21), sl21⟩)
    (c21 : PySem.W.codeIn K cd21 "_law_same" = true)
    (k21 : PySem.W.keepIn K (.ref f21) = true)
    (a22 : PySem.W.nsIn K mainGlobals "_law_written_test" = some (some (.ref f22)))
    (l22 : K.lookup f22 = some ⟨oc22, od22, .func (PySem.W.fnOf "_law_written_test" "_law_written_test" (defArgs s__law_written_test) (defBody s__law_written_test) (defScope s__law_written_test) .none kV22 dc22 pm22 an22 cd22 ct22), sl22⟩)
    (c22 : PySem.W.codeIn K cd22 "_law_written_test" = true)
    (k22 : PySem.W.keepIn K (.ref f22) = true)
    (a23 : PySem.W.nsIn K mainGlobals "_law_lines" = some (some (.ref f23)))
    (l23 : K.lookup f23 = some ⟨oc23, od23, .func (PySem.W.fnOf "_law_lines" "_law_lines" (defArgs s__law_lines) (defBody s__law_lines) (defScope s__law_lines) .none kV23 dc23 pm23 an23 cd23 ct23), sl23⟩)
    (c23 : PySem.W.codeIn K cd23 "_law_lines" = true)
    (k23 : PySem.W.keepIn K (.ref f23) = true)
    (a24 : PySem.W.nsIn K mainGlobals "_law_written" = some (some (.ref f24)))
    (l24 : K.lookup f24 = some ⟨oc24, od24, .func (PySem.W.fnOf "_law_written" "_law_written" (defArgs s__law_written) (defBody s__law_written) (defScope s__law_written) .none kV24 dc24 pm24 an24 cd24 ct24), sl24⟩)
    (c24 : PySem.W.codeIn K cd24 "_law_written" = true)
    (k24 : PySem.W.keepIn K (.ref f24) = true)
    (a25 : PySem.W.nsIn K mainGlobals "_law_keeps" = some (some (.ref f25)))
    (l25 : K.lookup f25 = some ⟨oc25, od25, .func (PySem.W.fnOf "_law_keeps" "_law_keeps" (defArgs s__law_keeps) (defBody s__law_keeps) (defScope s__law_keeps) .none kV25 dc25 pm25 an25 cd25 ct25), sl25⟩)
    (c25 : PySem.W.codeIn K cd25 "_law_keeps" = true)
    (k25 : PySem.W.keepIn K (.ref f25) = true)
    (a26 : PySem.W.nsIn K mainGlobals "is_small_letter" = some (some (.ref f26)))
    (l26 : K.lookup f26 = some ⟨oc26, od26, .func (PySem.W.fnOf "is_small_letter" "is_small_letter" (defArgs s_is_small_letter) (defBody s_is_small_letter) (defScope s_is_small_letter) .none kV26 dc26 pm26 an26 cd26 ct26), sl26⟩)
    (c26 : PySem.W.codeIn K cd26 "is_small_letter" = true)
    (k26 : PySem.W.keepIn K (.ref f26) = true)
    (a27 : PySem.W.nsIn K mainGlobals "is_word" = some (some (.ref f27)))
    (l27 : K.lookup f27 = some ⟨oc27, od27, .func (PySem.W.fnOf "is_word" "is_word" (defArgs s_is_word) (defBody s_is_word) (defScope s_is_word) .none kV27 dc27 pm27 an27 cd27 ct27), sl27⟩)
    (c27 : PySem.W.codeIn K cd27 "is_word" = true)
    (k27 : PySem.W.keepIn K (.ref f27) = true)
    (a28 : PySem.W.nsIn K mainGlobals "is_ascending" = some (some (.ref f28)))
    (l28 : K.lookup f28 = some ⟨oc28, od28, .func (PySem.W.fnOf "is_ascending" "is_ascending" (defArgs s_is_ascending) (defBody s_is_ascending) (defScope s_is_ascending) .none kV28 dc28 pm28 an28 cd28 ct28), sl28⟩)
    (c28 : PySem.W.codeIn K cd28 "is_ascending" = true)
    (k28 : PySem.W.keepIn K (.ref f28) = true)
    (a29 : PySem.W.nsIn K mainGlobals "is_alphabet" = some (some (.ref f29)))
    (l29 : K.lookup f29 = some ⟨oc29, od29, .func (PySem.W.fnOf "is_alphabet" "is_alphabet" (defArgs s_is_alphabet) (defBody s_is_alphabet) (defScope s_is_alphabet) .none kV29 dc29 pm29 an29 cd29 ct29), sl29⟩)
    (c29 : PySem.W.codeIn K cd29 "is_alphabet" = true)
    (k29 : PySem.W.keepIn K (.ref f29) = true)
    (a30 : PySem.W.nsIn K mainGlobals "is_name" = some (some (.ref f30)))
    (l30 : K.lookup f30 = some ⟨oc30, od30, .func (PySem.W.fnOf "is_name" "is_name" (defArgs s_is_name) (defBody s_is_name) (defScope s_is_name) .none kV30 dc30 pm30 an30 cd30 ct30), sl30⟩)
    (c30 : PySem.W.codeIn K cd30 "is_name" = true)
    (k30 : PySem.W.keepIn K (.ref f30) = true)
    (a31 : PySem.W.nsIn K mainGlobals "are_letters" = some (some (.ref f31)))
    (l31 : K.lookup f31 = some ⟨oc31, od31, .func (PySem.W.fnOf "are_letters" "are_letters" (defArgs s_are_letters) (defBody s_are_letters) (defScope s_are_letters) .none kV31 dc31 pm31 an31 cd31 ct31), sl31⟩)
    (c31 : PySem.W.codeIn K cd31 "are_letters" = true)
    (k31 : PySem.W.keepIn K (.ref f31) = true)
    (a32 : PySem.W.nsIn K mainGlobals "check_alphabet" = some (some (.ref f32)))
    (l32 : K.lookup f32 = some ⟨oc32, od32, .func (PySem.W.fnOf "check_alphabet" "check_alphabet" (defArgs s_check_alphabet) (defBody s_check_alphabet) (defScope s_check_alphabet) .none kV32 dc32 pm32 an32 cd32 ct32), sl32⟩)
    (c32 : PySem.W.codeIn K cd32 "check_alphabet" = true)
    (k32 : PySem.W.keepIn K (.ref f32) = true)
    (a33 : PySem.W.nsIn K mainGlobals "check_text" = some (some (.ref f33)))
    (l33 : K.lookup f33 = some ⟨oc33, od33, .func (PySem.W.fnOf "check_text" "check_text" (defArgs s_check_text) (defBody s_check_text) (defScope s_check_text) .none kV33 dc33 pm33 an33 cd33 ct33), sl33⟩)
    (c33 : PySem.W.codeIn K cd33 "check_text" = true)
    (k33 : PySem.W.keepIn K (.ref f33) = true)
    (a34 : PySem.W.nsIn K mainGlobals "check_name" = some (some (.ref f34)))
    (l34 : K.lookup f34 = some ⟨oc34, od34, .func (PySem.W.fnOf "check_name" "check_name" (defArgs s_check_name) (defBody s_check_name) (defScope s_check_name) .none kV34 dc34 pm34 an34 cd34 ct34), sl34⟩)
    (c34 : PySem.W.codeIn K cd34 "check_name" = true)
    (k34 : PySem.W.keepIn K (.ref f34) = true)
    (a35 : PySem.W.nsIn K mainGlobals "check_letters" = some (some (.ref f35)))
    (l35 : K.lookup f35 = some ⟨oc35, od35, .func (PySem.W.fnOf "check_letters" "check_letters" (defArgs s_check_letters) (defBody s_check_letters) (defScope s_check_letters) .none kV35 dc35 pm35 an35 cd35 ct35), sl35⟩)
    (c35 : PySem.W.codeIn K cd35 "check_letters" = true)
    (k35 : PySem.W.keepIn K (.ref f35) = true)
    (a36 : PySem.W.nsIn K mainGlobals "first_word" = some (some (.ref f36)))
    (l36 : K.lookup f36 = some ⟨oc36, od36, .func (PySem.W.fnOf "first_word" "first_word" (defArgs s_first_word) (defBody s_first_word) (defScope s_first_word) .none kV36 dc36 pm36 an36 cd36 ct36), sl36⟩)
    (c36 : PySem.W.codeIn K cd36 "first_word" = true)
    (k36 : PySem.W.keepIn K (.ref f36) = true)
    (a37 : PySem.W.nsIn K mainGlobals "tests_within" = some (some (.ref f37)))
    (l37 : K.lookup f37 = some ⟨oc37, od37, .func (PySem.W.fnOf "tests_within" "tests_within" (defArgs s_tests_within) (defBody s_tests_within) (defScope s_tests_within) .none kV37 dc37 pm37 an37 cd37 ct37), sl37⟩)
    (c37 : PySem.W.codeIn K cd37 "tests_within" = true)
    (k37 : PySem.W.keepIn K (.ref f37) = true)
    (a38 : PySem.W.nsIn K mainGlobals "check_test_form" = some (some (.ref f38)))
    (l38 : K.lookup f38 = some ⟨oc38, od38, .func (PySem.W.fnOf "check_test_form" "check_test_form" (defArgs s_check_test_form) (defBody s_check_test_form) (defScope s_check_test_form) .none kV38 dc38 pm38 an38 cd38 ct38), sl38⟩)
    (c38 : PySem.W.codeIn K cd38 "check_test_form" = true)
    (k38 : PySem.W.keepIn K (.ref f38) = true)
    (a39 : PySem.W.nsIn K mainGlobals "simple_tests" = some (some (.ref f39)))
    (l39 : K.lookup f39 = some ⟨oc39, od39, .func (PySem.W.fnOf "simple_tests" "simple_tests" (defArgs s_simple_tests) (defBody s_simple_tests) (defScope s_simple_tests) .none kV39 dc39 pm39 an39 cd39 ct39), sl39⟩)
    (c39 : PySem.W.codeIn K cd39 "simple_tests" = true)
    (k39 : PySem.W.keepIn K (.ref f39) = true)
    (a40 : PySem.W.nsIn K mainGlobals "check_known" = some (some (.ref f40)))
    (l40 : K.lookup f40 = some ⟨oc40, od40, .func (PySem.W.fnOf "check_known" "check_known" (defArgs s_check_known) (defBody s_check_known) (defScope s_check_known) .none kV40 dc40 pm40 an40 cd40 ct40), sl40⟩)
    (c40 : PySem.W.codeIn K cd40 "check_known" = true)
    (k40 : PySem.W.keepIn K (.ref f40) = true)
    (a41 : PySem.W.nsIn K mainGlobals "check_test_names" = some (some (.ref f41)))
    (l41 : K.lookup f41 = some ⟨oc41, od41, .func (PySem.W.fnOf "check_test_names" "check_test_names" (defArgs s_check_test_names) (defBody s_check_test_names) (defScope s_check_test_names) .none kV41 dc41 pm41 an41 cd41 ct41), sl41⟩)
    (c41 : PySem.W.codeIn K cd41 "check_test_names" = true)
    (k41 : PySem.W.keepIn K (.ref f41) = true)
    (a42 : PySem.W.nsIn K mainGlobals "frozen" = some (some (.ref f42)))
    (l42 : K.lookup f42 = some ⟨oc42, od42, .func (PySem.W.fnOf "frozen" "frozen" (defArgs s_frozen) (defBody s_frozen) (defScope s_frozen) .none kV42 dc42 pm42 an42 cd42 ct42), sl42⟩)
    (c42 : PySem.W.codeIn K cd42 "frozen" = true)
    (k42 : PySem.W.keepIn K (.ref f42) = true)
    (a43 : PySem.W.nsIn K mainGlobals "blocks_within" = some (some (.ref f43)))
    (l43 : K.lookup f43 = some ⟨oc43, od43, .func (PySem.W.fnOf "blocks_within" "blocks_within" (defArgs s_blocks_within) (defBody s_blocks_within) (defScope s_blocks_within) .none kV43 dc43 pm43 an43 cd43 ct43), sl43⟩)
    (c43 : PySem.W.codeIn K cd43 "blocks_within" = true)
    (k43 : PySem.W.keepIn K (.ref f43) = true)
    (a44 : PySem.W.nsIn K mainGlobals "check_form" = some (some (.ref f44)))
    (l44 : K.lookup f44 = some ⟨oc44, od44, .func (PySem.W.fnOf "check_form" "check_form" (defArgs s_check_form) (defBody s_check_form) (defScope s_check_form) .none kV44 dc44 pm44 an44 cd44 ct44), sl44⟩)
    (c44 : PySem.W.codeIn K cd44 "check_form" = true)
    (k44 : PySem.W.keepIn K (.ref f44) = true)
    (a45 : PySem.W.nsIn K mainGlobals "check_copy" = some (some (.ref f45)))
    (l45 : K.lookup f45 = some ⟨oc45, od45, .func (PySem.W.fnOf "check_copy" "check_copy" (defArgs s_check_copy) (defBody s_check_copy) (defScope s_check_copy) .none kV45 dc45 pm45 an45 cd45 ct45), sl45⟩)
    (c45 : PySem.W.codeIn K cd45 "check_copy" = true)
    (k45 : PySem.W.keepIn K (.ref f45) = true)
    (a46 : PySem.W.nsIn K mainGlobals "check_taking" = some (some (.ref f46)))
    (l46 : K.lookup f46 = some ⟨oc46, od46, .func (PySem.W.fnOf "check_taking" "check_taking" (defArgs s_check_taking) (defBody s_check_taking) (defScope s_check_taking) .none kV46 dc46 pm46 an46 cd46 ct46), sl46⟩)
    (c46 : PySem.W.codeIn K cd46 "check_taking" = true)
    (k46 : PySem.W.keepIn K (.ref f46) = true)
    (a47 : PySem.W.nsIn K mainGlobals "check_parts" = some (some (.ref f47)))
    (l47 : K.lookup f47 = some ⟨oc47, od47, .func (PySem.W.fnOf "check_parts" "check_parts" (defArgs s_check_parts) (defBody s_check_parts) (defScope s_check_parts) .none kV47 dc47 pm47 an47 cd47 ct47), sl47⟩)
    (c47 : PySem.W.codeIn K cd47 "check_parts" = true)
    (k47 : PySem.W.keepIn K (.ref f47) = true)
    (a48 : PySem.W.nsIn K mainGlobals "checked_spots" = some (some (.ref f48)))
    (l48 : K.lookup f48 = some ⟨oc48, od48, .func (PySem.W.fnOf "checked_spots" "checked_spots" (defArgs s_checked_spots) (defBody s_checked_spots) (defScope s_checked_spots) .none kV48 dc48 pm48 an48 cd48 ct48), sl48⟩)
    (c48 : PySem.W.codeIn K cd48 "checked_spots" = true)
    (k48 : PySem.W.keepIn K (.ref f48) = true)
    (a49 : PySem.W.nsIn K mainGlobals "written_test" = some (some (.ref f49)))
    (l49 : K.lookup f49 = some ⟨oc49, od49, .func (PySem.W.fnOf "written_test" "written_test" (defArgs s_written_test) (defBody s_written_test) (defScope s_written_test) .none kV49 dc49 pm49 an49 cd49 ct49), sl49⟩)
    (c49 : PySem.W.codeIn K cd49 "written_test" = true)
    (k49 : PySem.W.keepIn K (.ref f49) = true)
    (a50 : PySem.W.nsIn K mainGlobals "written_statement" = some (some (.ref f50)))
    (l50 : K.lookup f50 = some ⟨oc50, od50, .func (PySem.W.fnOf "written_statement" "written_statement" (defArgs s_written_statement) (defBody s_written_statement) (defScope s_written_statement) .none kV50 dc50 pm50 an50 cd50 ct50), sl50⟩)
    (c50 : PySem.W.codeIn K cd50 "written_statement" = true)
    (k50 : PySem.W.keepIn K (.ref f50) = true)
    (a51 : PySem.W.nsIn K mainGlobals "block_parts" = some (some (.ref f51)))
    (l51 : K.lookup f51 = some ⟨oc51, od51, .func (PySem.W.fnOf "block_parts" "block_parts" (defArgs s_block_parts) (defBody s_block_parts) (defScope s_block_parts) .none kV51 dc51 pm51 an51 cd51 ct51), sl51⟩)
    (c51 : PySem.W.codeIn K cd51 "block_parts" = true)
    (k51 : PySem.W.keepIn K (.ref f51) = true)
    (a52 : PySem.W.nsIn K mainGlobals "inner_parts" = some (some (.ref f52)))
    (l52 : K.lookup f52 = some ⟨oc52, od52, .func (PySem.W.fnOf "inner_parts" "inner_parts" (defArgs s_inner_parts) (defBody s_inner_parts) (defScope s_inner_parts) .none kV52 dc52 pm52 an52 cd52 ct52), sl52⟩)
    (c52 : PySem.W.codeIn K cd52 "inner_parts" = true)
    (k52 : PySem.W.keepIn K (.ref f52) = true)
    (a53 : PySem.W.nsIn K mainGlobals "format_program" = some (some (.ref f53)))
    (l53 : K.lookup f53 = some ⟨oc53, od53, .func (PySem.W.fnOf "format_program" "format_program" (defArgs s_format_program) (defBody s_format_program) (defScope s_format_program) .none kV53 dc53 pm53 an53 cd53 ct53), sl53⟩)
    (c53 : PySem.W.codeIn K cd53 "format_program" = true)
    (k53 : PySem.W.keepIn K (.ref f53) = true)
    (a54 : PySem.W.nsIn K mainGlobals "law" = some (some (.ref f54)))
    (l54 : K.lookup f54 = some ⟨oc54, od54, .func (PySem.W.fnOf "law" "law" (defArgs s_law) (defBody s_law) (defScope s_law) .none kV54 dc54 pm54 an54 cd54 ct54), sl54⟩)
    (c54 : PySem.W.codeIn K cd54 "law" = true)
    (k54 : PySem.W.keepIn K (.ref f54) = true)
    (a55 : PySem.W.findIn K (.ref C) "__init__" = some (some (.ref f55)))
    (i55 : PySem.W.isFn K (.ref f55) = true)
    (l55 : K.lookup f55 = some ⟨oc55, od55, .func (PySem.W.fnOf "__init__" "Program.__init__" (defArgs s_ProgramU_initU) (defBody s_ProgramU_initU) (defScope s_ProgramU_initU) .none kV55 dc55 pm55 an55 cd55 ct55), sl55⟩)
    (c55 : PySem.W.codeIn K cd55 "Program.__init__" = true)
    (k55 : PySem.W.keepIn K (.ref f55) = true)
    (pg : PySem.W.plainGet K C Str.empty = true)
    (hd : PySem.W.hasDictIn K C = true)
    (po : PySem.W.plainOver K C = true)
    (sa : PySem.W.findIn K (.ref C) "__setattr__" = some (some (.builtin "object.__setattr__")))
    (mk : PySem.W.makesIn K C = true)
    (kc : PySem.W.keepIn K (.ref C) = true)
    (n_reads : PySem.W.findIn K (.ref C) "reads" = some none)
    (n_prints : PySem.W.findIn K (.ref C) "prints" = some none)
    (n_block : PySem.W.findIn K (.ref C) "block" = some none)
    (n_spots : PySem.W.findIn K (.ref C) "spots" = some none)
    (z_len : PySem.W.nsIn K mainGlobals "len" = some none)
    (z_all : PySem.W.nsIn K mainGlobals "all" = some none)
    (z_any : PySem.W.nsIn K mainGlobals "any" = some none)
    (z_int : PySem.W.nsIn K mainGlobals "int" = some none)
    (z_str : PySem.W.nsIn K mainGlobals "str" = some none)
    (z_bool : PySem.W.nsIn K mainGlobals "bool" = some none)
    (z_list : PySem.W.nsIn K mainGlobals "list" = some none)
    (z_tuple : PySem.W.nsIn K mainGlobals "tuple" = some none)
    (z_range : PySem.W.nsIn K mainGlobals "range" = some none)
    (z_isinstance : PySem.W.nsIn K mainGlobals "isinstance" = some none)
    (z_enumerate : PySem.W.nsIn K mainGlobals "enumerate" = some none)
    (z_zip : PySem.W.nsIn K mainGlobals "zip" = some none)
    (z_sorted : PySem.W.nsIn K mainGlobals "sorted" = some none)
    (aR : PySem.W.nsIn K mainGlobals "RESERVED" = some (some (.ref Ra)))
    (lR : K.lookup Ra = some oR)
    (aA : PySem.W.nsIn K mainGlobals "TEST_SIZES" = some (some (.ref Aa)))
    (lA : K.lookup Aa = some ⟨.type "dict", none, .dict esA nA, #[]⟩)
    (vA_in : PySem.W.nsIn K Aa "in" = some (some (.int 3 tA_in)))
    (vA_before : PySem.W.nsIn K Aa "before" = some (some (.int 3 tA_before)))
    (vA_same : PySem.W.nsIn K Aa "same" = some (some (.int 3 tA_same)))
    (vA_mark : PySem.W.nsIn K Aa "mark" = some (some (.int 2 tA_mark)))
    (vA_not : PySem.W.nsIn K Aa "not" = some (some (.int 2 tA_not)))
    (vA_and : PySem.W.nsIn K Aa "and" = some (some (.int 3 tA_and)))
    (vA_or : PySem.W.nsIn K Aa "or" = some (some (.int 3 tA_or)))
    (aB : PySem.W.nsIn K mainGlobals "STATEMENT_SIZES" = some (some (.ref Ba)))
    (lB : K.lookup Ba = some ⟨.type "dict", none, .dict esB nB, #[]⟩)
    (vB_for : PySem.W.nsIn K Ba "for" = some (some (.int 4 tB_for)))
    (vB_mark : PySem.W.nsIn K Ba "mark" = some (some (.int 3 tB_mark)))
    (vB_set : PySem.W.nsIn K Ba "set" = some (some (.int 2 tB_set)))
    (vB_clear : PySem.W.nsIn K Ba "clear" = some (some (.int 2 tB_clear)))
    (vB_if : PySem.W.nsIn K Ba "if" = some (some (.int 4 tB_if)))
    (vB_print : PySem.W.nsIn K Ba "print" = some (some (.int 2 tB_print)))
    (vB_copy : PySem.W.nsIn K Ba "copy" = some (some (.int 2 tB_copy)))
    (aP : PySem.W.nsIn K mainGlobals "PLACE_WORDS" = some (some (.ref Ca)))
    (lP : K.lookup Ca = some ⟨.type "dict", none, .dict esP nP, #[]⟩)
    (vP_before : PySem.W.nsIn K Ca "before" = some (some uPb))
    (vP_same : PySem.W.nsIn K Ca "same" = some (some uPs))
    (hRv : RV oR)
    (kA : PySem.W.KeysLit w.params esA.toList)
    (sA : (Aa == sysModules) = false)
    (kB : PySem.W.KeysLit w.params esB.toList)
    (sB : (Ba == sysModules) = false)
    (kP : PySem.W.KeysLit w.params esP.toList)
    (rPb : RelV (.str (Str.ofString "before")) uPb)
    (rPs : RelV (.str (Str.ofString "at")) uPs) :
    ∃ fd : FuncData, (∀ (s : Shared) (v : Value), BindsTo s fd ⟨[v], []⟩ [("script", v)]) ∧ ∀ base : Heap, K.In base → base.Ns mainGlobals mg → FnOk l.prog w K mg base CX0 75 fa fd ["script"] (spLaw K) := by
  have e := hfa.symm.trans (PySem.W.mg_of X G a54)
  cases e
  have TB : Bt mg := ⟨PySem.W.mg_none_of X G z_len, PySem.W.mg_none_of X G z_all, PySem.W.mg_none_of X G z_any, PySem.W.mg_none_of X G z_int, PySem.W.mg_none_of X G z_str, PySem.W.mg_none_of X G z_bool, PySem.W.mg_none_of X G z_list, PySem.W.mg_none_of X G z_tuple, PySem.W.mg_none_of X G z_range, PySem.W.mg_none_of X G z_isinstance, PySem.W.mg_none_of X G z_enumerate, PySem.W.mg_none_of X G z_zip, PySem.W.mg_none_of X G z_sorted⟩
  have T : Gw mg Ra Aa Ba Ca := { toBt := TB, g_RESERVED := PySem.W.mg_of X G aR, g_TEST_SIZES := PySem.W.mg_of X G aA, g_STATEMENT_SIZES := PySem.W.mg_of X G aB, g_PLACE_WORDS := PySem.W.mg_of X G aP }
  have hR : ∀ H, SqT K H Ra (resv.map V.str) := fun H => by
    obtain ⟨hc, its, n, hd, hs, hv⟩ := hRv
    exact .inr ⟨oR, its, n, lR, hc, hd, hs, hv⟩
  have hA : KSz K w Aa tSizes := ⟨⟨esA, nA, lA, kA, sA⟩, fun x n hx => by
    simp only [tSizes, List.mem_cons, Prod.mk.injEq, List.not_mem_nil, or_false] at hx
    rcases hx with ⟨rfl, rfl⟩ | ⟨rfl, rfl⟩ | ⟨rfl, rfl⟩ | ⟨rfl, rfl⟩ | ⟨rfl, rfl⟩ | ⟨rfl, rfl⟩ | ⟨rfl, rfl⟩
    · exact ⟨_, vA_in⟩
    · exact ⟨_, vA_before⟩
    · exact ⟨_, vA_same⟩
    · exact ⟨_, vA_mark⟩
    · exact ⟨_, vA_not⟩
    · exact ⟨_, vA_and⟩
    · exact ⟨_, vA_or⟩⟩
  have hB : KSz K w Ba sSizes := ⟨⟨esB, nB, lB, kB, sB⟩, fun x n hx => by
    simp only [sSizes, List.mem_cons, Prod.mk.injEq, List.not_mem_nil, or_false] at hx
    rcases hx with ⟨rfl, rfl⟩ | ⟨rfl, rfl⟩ | ⟨rfl, rfl⟩ | ⟨rfl, rfl⟩ | ⟨rfl, rfl⟩ | ⟨rfl, rfl⟩ | ⟨rfl, rfl⟩
    · exact ⟨_, vB_for⟩
    · exact ⟨_, vB_mark⟩
    · exact ⟨_, vB_set⟩
    · exact ⟨_, vB_clear⟩
    · exact ⟨_, vB_if⟩
    · exact ⟨_, vB_print⟩
    · exact ⟨_, vB_copy⟩⟩
  have hC : Pw K w Ca := ⟨⟨esP, nP, uPb, lP, kP, vP_before, rPb⟩, ⟨esP, nP, uPs, lP, kP, vP_same, rPs⟩⟩
  have F1 := fun_mk (st := s__law_draw) l1 c1 k1
  have b1 := F1.binds (ps := ["row", "at", "size"]) fun _ _ _ _ _ _ us hl => match us, hl with | [_, _, _], _ => rfl
  have m1 := PySem.W.mg_of X G a1
  have F2 := fun_mk (st := s__law_cell) l2 c2 k2
  have b2 := F2.binds (ps := ["script", "k"]) fun _ _ _ _ _ _ us hl => match us, hl with | [_, _], _ => rfl
  have m2 := PySem.W.mg_of X G a2
  have F3 := fun_mk (st := s__law_digits) l3 c3 k3
  have b3 := F3.binds (ps := ["cell", "sizes"]) fun _ _ _ _ _ _ us hl => match us, hl with | [_, _], _ => rfl
  have m3 := PySem.W.mg_of X G a3
  have F4 := fun_mk (st := s__law_row) l4 c4 k4
  have b4 := F4.binds (ps := ["script", "first", "many"]) fun _ _ _ _ _ _ us hl => match us, hl with | [_, _, _], _ => rfl
  have m4 := PySem.W.mg_of X G a4
  have F5 := fun_mk (st := s__law_text) l5 c5 k5
  have b5 := F5.binds (ps := ["alphabet", "row", "at", "size"]) fun _ _ _ _ _ _ us hl => match us, hl with | [_, _, _, _], _ => rfl
  have m5 := PySem.W.mg_of X G a5
  have F6 := fun_mk (st := s__law_wide) l6 c6 k6
  have b6 := F6.binds (ps := ["row", "at"]) fun _ _ _ _ _ _ us hl => match us, hl with | [_, _], _ => rfl
  have m6 := PySem.W.mg_of X G a6
  have F7 := fun_mk (st := s__law_letters_of) l7 c7 k7
  have b7 := F7.binds (ps := ["row", "at", "alphabet"]) fun _ _ _ _ _ _ us hl => match us, hl with | [_, _, _], _ => rfl
  have m7 := PySem.W.mg_of X G a7
  have F8 := fun_mk (st := s__law_wide_prints) l8 c8 k8
  have b8 := F8.binds (ps := ["row", "at", "alphabet"]) fun _ _ _ _ _ _ us hl => match us, hl with | [_, _, _], _ => rfl
  have m8 := PySem.W.mg_of X G a8
  have F9 := fun_mk (st := s__law_reserved) l9 c9 k9
  have b9 := F9.binds (ps := []) fun _ _ _ _ _ _ us hl => match us, hl with | [], _ => rfl
  have m9 := PySem.W.mg_of X G a9
  have F10 := fun_mk (st := s__law_pool) l10 c10 k10
  have b10 := F10.binds (ps := ["row", "at"]) fun _ _ _ _ _ _ us hl => match us, hl with | [_, _], _ => rfl
  have m10 := PySem.W.mg_of X G a10
  have F11 := fun_mk (st := s__law_part) l11 c11 k11
  have b11 := F11.binds (ps := ["row", "at", "world", "loops", "marks"]) fun _ _ _ _ _ _ us hl => match us, hl with | [_, _, _, _, _], _ => rfl
  have m11 := PySem.W.mg_of X G a11
  have F12 := fun_mk (st := s__law_deep_test) l12 c12 k12
  have b12 := F12.binds (ps := ["row", "at", "world", "loops", "marks", "deep"]) fun _ _ _ _ _ _ us hl => match us, hl with | [_, _, _, _, _, _], _ => rfl
  have m12 := PySem.W.mg_of X G a12
  have F13 := fun_mk (st := s__law_leaf) l13 c13 k13
  have b13 := F13.binds (ps := ["row", "at", "world", "loops", "marks"]) fun _ _ _ _ _ _ us hl => match us, hl with | [_, _, _, _, _], _ => rfl
  have m13 := PySem.W.mg_of X G a13
  have F14 := fun_mk (st := s__law_nested) l14 c14 k14
  have b14 := F14.binds (ps := ["row", "at", "world", "loops", "marks", "deep", "top"]) fun _ _ _ _ _ _ us hl => match us, hl with | [_, _, _, _, _, _, _], _ => rfl
  have m14 := PySem.W.mg_of X G a14
  have F15 := fun_mk (st := s__law_nest) l15 c15 k15
  have b15 := F15.binds (ps := ["row", "at", "world", "loops", "marks", "deep", "top"]) fun _ _ _ _ _ _ us hl => match us, hl with | [_, _, _, _, _, _, _], _ => rfl
  have m15 := PySem.W.mg_of X G a15
  have F16 := fun_mk (st := s__law_tower) l16 c16 k16
  have b16 := F16.binds (ps := ["row", "at", "world", "loops", "marks", "size"]) fun _ _ _ _ _ _ us hl => match us, hl with | [_, _, _, _, _, _], _ => rfl
  have m16 := PySem.W.mg_of X G a16
  have F17 := fun_mk (st := s__law_nest_program) l17 c17 k17
  have b17 := F17.binds (ps := ["row", "at", "top"]) fun _ _ _ _ _ _ us hl => match us, hl with | [_, _, _], _ => rfl
  have m17 := PySem.W.mg_of X G a17
  have F18 := fun_mk (st := s__law_frozen) l18 c18 k18
  have b18 := F18.binds (ps := ["value"]) fun _ _ _ _ _ _ us hl => match us, hl with | [_], _ => rfl
  have m18 := PySem.W.mg_of X G a18
  have F19 := fun_mk (st := s__law_thawed) l19 c19 k19
  have b19 := F19.binds (ps := ["value", "kind", "row", "at"]) fun _ _ _ _ _ _ us hl => match us, hl with | [_, _, _, _], _ => rfl
  have m19 := PySem.W.mg_of X G a19
  have F20 := fun_mk (st := s__law_whole) l20 c20 k20
  have b20 := F20.binds (ps := ["value"]) fun _ _ _ _ _ _ us hl => match us, hl with | [_], _ => rfl
  have m20 := PySem.W.mg_of X G a20
  have F21 := fun_mk (st := s__law_same) l21 c21 k21
  have b21 := F21.binds (ps := ["told", "due"]) fun _ _ _ _ _ _ us hl => match us, hl with | [_, _], _ => rfl
  have m21 := PySem.W.mg_of X G a21
  have F22 := fun_mk (st := s__law_written_test) l22 c22 k22
  have b22 := F22.binds (ps := ["test"]) fun _ _ _ _ _ _ us hl => match us, hl with | [_], _ => rfl
  have m22 := PySem.W.mg_of X G a22
  have F23 := fun_mk (st := s__law_lines) l23 c23 k23
  have b23 := F23.binds (ps := ["body", "indent"]) fun _ _ _ _ _ _ us hl => match us, hl with | [_, _], _ => rfl
  have m23 := PySem.W.mg_of X G a23
  have F24 := fun_mk (st := s__law_written) l24 c24 k24
  have b24 := F24.binds (ps := ["drawn"]) fun _ _ _ _ _ _ us hl => match us, hl with | [_], _ => rfl
  have m24 := PySem.W.mg_of X G a24
  have F25 := fun_mk (st := s__law_keeps) l25 c25 k25
  have b25 := F25.binds (ps := ["made", "drawn"]) fun _ _ _ _ _ _ us hl => match us, hl with | [_, _], _ => rfl
  have m25 := PySem.W.mg_of X G a25
  have F26 := fun_mk (st := s_is_small_letter) l26 c26 k26
  have b26 := F26.binds (ps := ["sign"]) fun _ _ _ _ _ _ us hl => match us, hl with | [_], _ => rfl
  have m26 := PySem.W.mg_of X G a26
  have F27 := fun_mk (st := s_is_word) l27 c27 k27
  have b27 := F27.binds (ps := ["text"]) fun _ _ _ _ _ _ us hl => match us, hl with | [_], _ => rfl
  have m27 := PySem.W.mg_of X G a27
  have F28 := fun_mk (st := s_is_ascending) l28 c28 k28
  have b28 := F28.binds (ps := ["text"]) fun _ _ _ _ _ _ us hl => match us, hl with | [_], _ => rfl
  have m28 := PySem.W.mg_of X G a28
  have F29 := fun_mk (st := s_is_alphabet) l29 c29 k29
  have b29 := F29.binds (ps := ["text"]) fun _ _ _ _ _ _ us hl => match us, hl with | [_], _ => rfl
  have m29 := PySem.W.mg_of X G a29
  have F30 := fun_mk (st := s_is_name) l30 c30 k30
  have b30 := F30.binds (ps := ["text"]) fun _ _ _ _ _ _ us hl => match us, hl with | [_], _ => rfl
  have m30 := PySem.W.mg_of X G a30
  have F31 := fun_mk (st := s_are_letters) l31 c31 k31
  have b31 := F31.binds (ps := ["letters", "alphabet"]) fun _ _ _ _ _ _ us hl => match us, hl with | [_, _], _ => rfl
  have m31 := PySem.W.mg_of X G a31
  have F32 := fun_mk (st := s_check_alphabet) l32 c32 k32
  have b32 := F32.binds (ps := ["alphabet"]) fun _ _ _ _ _ _ us hl => match us, hl with | [_], _ => rfl
  have m32 := PySem.W.mg_of X G a32
  have F33 := fun_mk (st := s_check_text) l33 c33 k33
  have b33 := F33.binds (ps := ["text", "alphabet"]) fun _ _ _ _ _ _ us hl => match us, hl with | [_, _], _ => rfl
  have m33 := PySem.W.mg_of X G a33
  have F34 := fun_mk (st := s_check_name) l34 c34 k34
  have b34 := F34.binds (ps := ["name"]) fun _ _ _ _ _ _ us hl => match us, hl with | [_], _ => rfl
  have m34 := PySem.W.mg_of X G a34
  have F35 := fun_mk (st := s_check_letters) l35 c35 k35
  have b35 := F35.binds (ps := ["letters", "alphabet"]) fun _ _ _ _ _ _ us hl => match us, hl with | [_, _], _ => rfl
  have m35 := PySem.W.mg_of X G a35
  have F36 := fun_mk (st := s_first_word) l36 c36 k36
  have b36 := F36.binds (ps := ["item"]) fun _ _ _ _ _ _ us hl => match us, hl with | [_], _ => rfl
  have m36 := PySem.W.mg_of X G a36
  have F37 := fun_mk (st := s_tests_within) l37 c37 k37
  have b37 := F37.binds (ps := ["test"]) fun _ _ _ _ _ _ us hl => match us, hl with | [_], _ => rfl
  have m37 := PySem.W.mg_of X G a37
  have F38 := fun_mk (st := s_check_test_form) l38 c38 k38
  have b38 := F38.binds (ps := ["test", "spot"]) fun _ _ _ _ _ _ us hl => match us, hl with | [_, _], _ => rfl
  have m38 := PySem.W.mg_of X G a38
  have F39 := fun_mk (st := s_simple_tests) l39 c39 k39
  have b39 := F39.binds (ps := ["test"]) fun _ _ _ _ _ _ us hl => match us, hl with | [_], _ => rfl
  have m39 := PySem.W.mg_of X G a39
  have F40 := fun_mk (st := s_check_known) l40 c40 k40
  have b40 := F40.binds (ps := ["name", "names"]) fun _ _ _ _ _ _ us hl => match us, hl with | [_, _], _ => rfl
  have m40 := PySem.W.mg_of X G a40
  have F41 := fun_mk (st := s_check_test_names) l41 c41 k41
  have b41 := F41.binds (ps := ["test", "reads", "loops", "marks"]) fun _ _ _ _ _ _ us hl => match us, hl with | [_, _, _, _], _ => rfl
  have m41 := PySem.W.mg_of X G a41
  have F42 := fun_mk (st := s_frozen) l42 c42 k42
  have b42 := F42.binds (ps := ["value"]) fun _ _ _ _ _ _ us hl => match us, hl with | [_], _ => rfl
  have m42 := PySem.W.mg_of X G a42
  have F43 := fun_mk (st := s_blocks_within) l43 c43 k43
  have b43 := F43.binds (ps := ["statement"]) fun _ _ _ _ _ _ us hl => match us, hl with | [_], _ => rfl
  have m43 := PySem.W.mg_of X G a43
  have F44 := fun_mk (st := s_check_form) l44 c44 k44
  have b44 := F44.binds (ps := ["statement", "spot"]) fun _ _ _ _ _ _ us hl => match us, hl with | [_, _], _ => rfl
  have m44 := PySem.W.mg_of X G a44
  have F45 := fun_mk (st := s_check_copy) l45 c45 k45
  have b45 := F45.binds (ps := ["reads", "prints"]) fun _ _ _ _ _ _ us hl => match us, hl with | [_, _], _ => rfl
  have m45 := PySem.W.mg_of X G a45
  have F46 := fun_mk (st := s_check_taking) l46 c46 k46
  have b46 := F46.binds (ps := ["statement", "taken"]) fun _ _ _ _ _ _ us hl => match us, hl with | [_, _], _ => rfl
  have m46 := PySem.W.mg_of X G a46
  have F47 := fun_mk (st := s_check_parts) l47 c47 k47
  have b47 := F47.binds (ps := ["statement", "reads", "prints", "loops", "marks"]) fun _ _ _ _ _ _ us hl => match us, hl with | [_, _, _, _, _], _ => rfl
  have m47 := PySem.W.mg_of X G a47
  have F48 := fun_mk (st := s_checked_spots) l48 c48 k48
  have b48 := F48.binds (ps := ["reads", "prints", "block"]) fun _ _ _ _ _ _ us hl => match us, hl with | [_, _, _], _ => rfl
  have m48 := PySem.W.mg_of X G a48
  have F49 := fun_mk (st := s_written_test) l49 c49 k49
  have b49 := F49.binds (ps := ["test"]) fun _ _ _ _ _ _ us hl => match us, hl with | [_], _ => rfl
  have m49 := PySem.W.mg_of X G a49
  have F50 := fun_mk (st := s_written_statement) l50 c50 k50
  have b50 := F50.binds (ps := ["statement"]) fun _ _ _ _ _ _ us hl => match us, hl with | [_], _ => rfl
  have m50 := PySem.W.mg_of X G a50
  have F51 := fun_mk (st := s_block_parts) l51 c51 k51
  have b51 := F51.binds (ps := ["indent", "block"]) fun _ _ _ _ _ _ us hl => match us, hl with | [_, _], _ => rfl
  have m51 := PySem.W.mg_of X G a51
  have F52 := fun_mk (st := s_inner_parts) l52 c52 k52
  have b52 := F52.binds (ps := ["indent", "statement"]) fun _ _ _ _ _ _ us hl => match us, hl with | [_, _], _ => rfl
  have m52 := PySem.W.mg_of X G a52
  have F53 := fun_mk (st := s_format_program) l53 c53 k53
  have b53 := F53.binds (ps := ["program"]) fun _ _ _ _ _ _ us hl => match us, hl with | [_], _ => rfl
  have m53 := PySem.W.mg_of X G a53
  have F54 := fun_mk (st := s_law) l54 c54 k54
  have F55 := fun_mk (st := s_ProgramU_initU) l55 c55 k55
  have b55 := F55.binds (ps := ["self", "reads", "prints", "block"]) fun _ _ _ _ _ _ us hl => match us, hl with | [_, _, _, _], _ => rfl
  refine ⟨PySem.W.fnOf "law" "law" (defArgs s_law) (defBody s_law) (defScope s_law) .none kV54 dc54 pm54 an54 cd54 ct54, fun s v => .of_eq rfl, fun base _ _ => ?_⟩
  have C__law_draw : Cl l.prog w K mg base "_law_draw" 1 ["row", "at", "size"] spDraw := ⟨f1, _, ok_draw F1 TB, b1, k1, m1⟩
  have C__law_cell : Cl l.prog w K mg base "_law_cell" 1 ["script", "k"] (TW.spCell K) := ⟨f2, _, ok_cell F2 TB, b2, k2, m2⟩
  have C__law_digits : Cl l.prog w K mg base "_law_digits" 1 ["cell", "sizes"] spDigits := ⟨f3, _, ok_digits F3 TB, b3, k3, m3⟩
  have C__law_row : Cl l.prog w K mg base "_law_row" 2 ["script", "first", "many"] (spRow K) := ⟨f4, _, ok_row F4 TB C__law_cell C__law_digits, b4, k4, m4⟩
  have C__law_text : Cl l.prog w K mg base "_law_text" 2 ["alphabet", "row", "at", "size"] TW.spText := ⟨f5, _, ok_text F5 TB C__law_draw, b5, k5, m5⟩
  have C__law_wide : Cl l.prog w K mg base "_law_wide" 2 ["row", "at"] spWide := ⟨f6, _, ok_wide F6 TB C__law_draw, b6, k6, m6⟩
  have C__law_letters_of : Cl l.prog w K mg base "_law_letters_of" 2 ["row", "at", "alphabet"] spLetters := ⟨f7, _, ok_letters F7 TB C__law_draw, b7, k7, m7⟩
  have C__law_wide_prints : Cl l.prog w K mg base "_law_wide_prints" 3 ["row", "at", "alphabet"] spPrints := ⟨f8, _, ok_prints F8 TB C__law_draw C__law_wide, b8, k8, m8⟩
  have C__law_reserved : Cl l.prog w K mg base "_law_reserved" 1 [] spResv := ⟨f9, _, ok_resv F9 TB, b9, k9, m9⟩
  have C__law_pool : Cl l.prog w K mg base "_law_pool" 2 ["row", "at"] spPool := ⟨f10, _, ok_pool F10 TB C__law_draw C__law_reserved, b10, k10, m10⟩
  have C__law_part : Cl l.prog w K mg base "_law_part" 3 ["row", "at", "world", "loops", "marks"] spPart := ⟨f11, _, ok_part F11 TB C__law_draw C__law_letters_of, b11, k11, m11⟩
  have C__law_deep_test : Cl l.prog w K mg base "_law_deep_test" 8 ["row", "at", "world", "loops", "marks", "deep"] (spDeep 5) := ⟨f12, _, all_deep F12 TB C__law_draw C__law_part b12 m12 5, b12, k12, m12⟩
  have C__law_leaf : Cl l.prog w K mg base "_law_leaf" 3 ["row", "at", "world", "loops", "marks"] spLeaf := ⟨f13, _, ok_leaf F13 TB C__law_draw C__law_text, b13, k13, m13⟩
  have BN := both_nest (P := l.prog) (w := w) (base := base) F14 F15 TB C__law_draw C__law_deep_test C__law_leaf b14 b15 m14 m15 6
  have C__law_nested : Cl l.prog w K mg base "_law_nested" 20 ["row", "at", "world", "loops", "marks", "deep", "top"] (spNested 6) := ⟨f14, _, BN.1, b14, k14, m14⟩
  have C__law_nest : Cl l.prog w K mg base "_law_nest" 21 ["row", "at", "world", "loops", "marks", "deep", "top"] (spNest 6) := ⟨f15, _, BN.2, b15, k15, m15⟩
  have C__law_tower : Cl l.prog w K mg base "_law_tower" 33 ["row", "at", "world", "loops", "marks", "size"] (spTower 25) := ⟨f16, _, all_tower F16 TB C__law_draw C__law_deep_test C__law_leaf b16 m16 25, b16, k16, m16⟩
  have C__law_nest_program : Cl l.prog w K mg base "_law_nest_program" 34 ["row", "at", "top"] spProg := ⟨f17, _, ok_prog F17 TB C__law_draw C__law_wide C__law_wide_prints C__law_pool C__law_leaf C__law_nested C__law_nest C__law_tower, b17, k17, m17⟩
  have C__law_frozen : Cl l.prog w K mg base "_law_frozen" 71 ["value"] (spFrozen 70) := ⟨f18, _, all_lfrozen F18 TB b18 m18 70, b18, k18, m18⟩
  have C__law_thawed : Cl l.prog w K mg base "_law_thawed" 72 ["value", "kind", "row", "at"] (spThawed 70) := ⟨f19, _, all_thawed F19 TB C__law_draw b19 m19 70, b19, k19, m19⟩
  have C__law_whole : Cl l.prog w K mg base "_law_whole" 1 ["value"] (fun _ _ _ _ => False) := ⟨f20, _, FnOk.none fun _ _ _ _ h => h, b20, k20, m20⟩
  have C__law_same : Cl l.prog w K mg base "_law_same" 73 ["told", "due"] (spSame 71) := ⟨f21, _, all_lsame F21 TB C__law_whole b21 m21 71, b21, k21, m21⟩
  have C__law_written_test : Cl l.prog w K mg base "_law_written_test" 6 ["test"] (spWtest 5) := ⟨f22, _, all_wtest F22 TB b22 m22 5, b22, k22, m22⟩
  have C__law_lines : Cl l.prog w K mg base "_law_lines" 38 ["body", "indent"] (spLines 31) := ⟨f23, _, all_lines F23 TB C__law_written_test b23 m23 31, b23, k23, m23⟩
  have C__law_written : Cl l.prog w K mg base "_law_written" 39 ["drawn"] spWritten := ⟨f24, _, ok_written F24 T C__law_lines, b24, k24, m24⟩
  have C__law_keeps : Cl l.prog w K mg base "_law_keeps" 74 ["made", "drawn"] (spKeeps K) := ⟨f25, _, ok_keeps F25 T C__law_same C__law_frozen, b25, k25, m25⟩
  have C_is_small_letter : Cl l.prog w K mg base "is_small_letter" 1 ["sign"] spSmall := ⟨f26, _, ok_small F26 T, b26, k26, m26⟩
  have C_is_word : Cl l.prog w K mg base "is_word" 2 ["text"] spWord := ⟨f27, _, ok_word F27 T C_is_small_letter, b27, k27, m27⟩
  have C_is_ascending : Cl l.prog w K mg base "is_ascending" 1 ["text"] spAsc := ⟨f28, _, ok_asc F28 T, b28, k28, m28⟩
  have C_is_alphabet : Cl l.prog w K mg base "is_alphabet" 2 ["text"] spAlph := ⟨f29, _, ok_alph F29 T C_is_small_letter C_is_ascending, b29, k29, m29⟩
  have C_is_name : Cl l.prog w K mg base "is_name" 3 ["text"] spName := ⟨f30, _, ok_name F30 T hR C_is_small_letter C_is_word, b30, k30, m30⟩
  have C_are_letters : Cl l.prog w K mg base "are_letters" 2 ["letters", "alphabet"] spAre := ⟨f31, _, ok_are F31 T C_is_ascending, b31, k31, m31⟩
  have C_check_alphabet : Cl l.prog w K mg base "check_alphabet" 3 ["alphabet"] spCalph := ⟨f32, _, ok_calph F32 T C_is_alphabet, b32, k32, m32⟩
  have C_check_text : Cl l.prog w K mg base "check_text" 1 ["text", "alphabet"] spCtext := ⟨f33, _, ok_ctext F33 T, b33, k33, m33⟩
  have C_check_name : Cl l.prog w K mg base "check_name" 4 ["name"] spCname := ⟨f34, _, ok_cname F34 T C_is_name, b34, k34, m34⟩
  have C_check_letters : Cl l.prog w K mg base "check_letters" 3 ["letters", "alphabet"] spClet := ⟨f35, _, ok_clet F35 T C_are_letters, b35, k35, m35⟩
  have C_first_word : Cl l.prog w K mg base "first_word" 1 ["item"] spFirst := ⟨f36, _, ok_first F36 T, b36, k36, m36⟩
  have C_tests_within : Cl l.prog w K mg base "tests_within" 1 ["test"] spWithin := ⟨f37, _, ok_within F37 T, b37, k37, m37⟩
  have C_check_test_form : Cl l.prog w K mg base "check_test_form" 2 ["test", "spot"] spTform := ⟨f38, _, ok_tform F38 T hA C_first_word C_tests_within, b38, k38, m38⟩
  have C_simple_tests : Cl l.prog w K mg base "simple_tests" 2 ["test"] spSimple := ⟨f39, _, ok_simple F39 T C_tests_within, b39, k39, m39⟩
  have C_check_known : Cl l.prog w K mg base "check_known" 1 ["name", "names"] spKnown := ⟨f40, _, ok_known F40 T, b40, k40, m40⟩
  have C_check_test_names : Cl l.prog w K mg base "check_test_names" 4 ["test", "reads", "loops", "marks"] spTnames := ⟨f41, _, ok_tnames F41 T C_simple_tests C_check_known C_check_letters, b41, k41, m41⟩
  have C_frozen : Cl l.prog w K mg base "frozen" 1 ["value"] spFz := ⟨f42, _, ok_frozen F42 T, b42, k42, m42⟩
  have C_blocks_within : Cl l.prog w K mg base "blocks_within" 1 ["statement"] spBlocks := ⟨f43, _, ok_blocks F43 T, b43, k43, m43⟩
  have C_check_form : Cl l.prog w K mg base "check_form" 3 ["statement", "spot"] spForm := ⟨f44, _, ok_form F44 T hB C_first_word C_check_test_form, b44, k44, m44⟩
  have C_check_copy : Cl l.prog w K mg base "check_copy" 1 ["reads", "prints"] spCopy := ⟨f45, _, ok_copy F45 T, b45, k45, m45⟩
  have C_check_taking : Cl l.prog w K mg base "check_taking" 5 ["statement", "taken"] spTaking := ⟨f46, _, ok_taking F46 T C_check_name, b46, k46, m46⟩
  have C_check_parts : Cl l.prog w K mg base "check_parts" 5 ["statement", "reads", "prints", "loops", "marks"] spParts := ⟨f47, _, ok_parts F47 T C_check_known C_check_test_names C_check_text C_check_copy, b47, k47, m47⟩
  have C_checked_spots : Cl l.prog w K mg base "checked_spots" 6 ["reads", "prints", "block"] spSpots := ⟨f48, _, ok_spots F48 T C_check_form C_check_taking C_check_parts C_blocks_within, b48, k48, m48⟩
  have C_written_test : Cl l.prog w K mg base "written_test" 1 ["test"] spPtest := ⟨f49, _, ok_ptest F49 T hC, b49, k49, m49⟩
  have C_written_statement : Cl l.prog w K mg base "written_statement" 2 ["statement"] spPstm := ⟨f50, _, ok_pstm F50 T C_written_test, b50, k50, m50⟩
  have C_block_parts : Cl l.prog w K mg base "block_parts" 1 ["indent", "block"] spBparts := ⟨f51, _, ok_bparts F51 T, b51, k51, m51⟩
  have C_inner_parts : Cl l.prog w K mg base "inner_parts" 2 ["indent", "statement"] spInner := ⟨f52, _, ok_inner F52 T C_blocks_within C_block_parts, b52, k52, m52⟩
  let C_format_program : Cl l.prog w K mg base "format_program" 3 ["program"] (spFormat K) := ⟨f53, _, ok_format F53 T C_block_parts C_written_statement C_inner_parts, b53, k53, m53⟩
  have CM : Cm l.prog w K mg base := ⟨C, f55, _, ok_init F55 T C_check_alphabet C_frozen C_checked_spots, b55, kbn_init F55, ⟨mk, a55, i55, kc⟩, PySem.W.mg_of X G aC, ⟨⟨pg, hd, po, sa⟩, n_reads, n_prints, n_block, n_spots⟩⟩
  exact ok_law (ff := f53) (ffd := C_format_program.fd) F54 T CM C__law_row C__law_draw C__law_nest_program C__law_thawed C__law_written C__law_same C__law_keeps C_format_program (kbn_fmt F53)
theorem walk {l : PySem.W.OpenLaw} {q : Program} {loose : List Str} {XP : (Str → Option Value) → Heap → Prop} {YP : World → Heap → Prop} {d : DefRec} {K : Params → PySem.W.Frag} (hn : l.most = some 63) (hdf : d.params.defaults = [])
    (hY : ∀ (w : World) (h : Heap), YP w h → (K w.params).In h)
    (F : ∀ (w : World) (mg : Str → Option Value) (fa : Addr) (h : Heap), (K w.params).In h → h.Ns mainGlobals mg → mg d.name = some (.ref fa) →
      ∃ fd : FuncData, (∀ (s : Shared) (u : Value), BindsTo s fd ⟨[u], []⟩ [("script", u)]) ∧ ∀ base : Heap, (K w.params).In base → base.Ns mainGlobals mg → FnOk l.prog w (K w.params) mg base CX0 75 fa fd ["script"] (spLaw (K w.params))) :
    PySem.W.WalkO q loose XP YP l.row.toRowW d [] (fun f vs => PySem.call f vs) :=
  L2.walk_of (n := 63) (k := 75) (x := "script") (CX := fun _ => CX0) (sp := fun w => spLaw (K w.params)) hn (by decide) hdf ⟨rfl, by decide, by decide⟩ hY F (fun _ _ a ns hl _ hS => ⟨a, ns, rfl, hS, hl, fun _ => rfl⟩) fun _ _ _ _ _ z => z
end TW
/-! Head -/
open PySem PySem.W PyProof.Rows
set_option Elab.async false
set_option maxRecDepth 100000
set_option maxHeartbeats 0 in
open_top hd for PySem.Challenge.rw_textloops_k12_written_programs
/-! Z -/
open PySem PySem.W PyProof.Rows L2
set_option Elab.async false
set_option maxRecDepth 100000 in
set_option maxHeartbeats 0 in
theorem PySem.Challenge.cw_textloops_k12_written_programs_holds : PySem.Challenge.rw_textloops_k12_written_programs.Holds := by
  refine hd ?_
  k_fill
  refine TW.walk (l := PySem.Challenge.rw_textloops_k12_written_programs) rfl rfl (fun w h Y => PySem.W.kIn_of Y) ?F
  case F =>
    intro w mg fa h KX G hmg
    refine' TW.all_mk KX G hmg ?aC ?a1 ?l1 ?c1 ?k1 ?a2 ?l2 ?c2 ?k2 ?a3 ?l3 ?c3 ?k3 ?a4 ?l4 ?c4 ?k4 ?a5 ?l5 ?c5 ?k5 ?a6 ?l6 ?c6 ?k6 ?a7 ?l7 ?c7 ?k7 ?a8 ?l8 ?c8 ?k8 ?a9 ?l9 ?c9 ?k9 ?a10 ?l10 ?c10 ?k10 ?a11 ?l11 ?c11 ?k11 ?a12 ?l12 ?c12 ?k12 ?a13 ?l13 ?c13 ?k13 ?a14 ?l14 ?c14 ?k14 ?a15 ?l15 ?c15 ?k15 ?a16 ?l16 ?c16 ?k16 ?a17 ?l17 ?c17 ?k17 ?a18 ?l18 ?c18 ?k18 ?a19 ?l19 ?c19 ?k19 ?a20 ?l20 ?c20 ?k20 ?a21 ?l21 ?c21 ?k21 ?a22 ?l22 ?c22 ?k22 ?a23 ?l23 ?c23 ?k23 ?a24 ?l24 ?c24 ?k24 ?a25 ?l25 ?c25 ?k25 ?a26 ?l26 ?c26 ?k26 ?a27 ?l27 ?c27 ?k27 ?a28 ?l28 ?c28 ?k28 ?a29 ?l29 ?c29 ?k29 ?a30 ?l30 ?c30 ?k30 ?a31 ?l31 ?c31 ?k31 ?a32 ?l32 ?c32 ?k32 ?a33 ?l33 ?c33 ?k33 ?a34 ?l34 ?c34 ?k34 ?a35 ?l35 ?c35 ?k35 ?a36 ?l36 ?c36 ?k36 ?a37 ?l37 ?c37 ?k37 ?a38 ?l38 ?c38 ?k38 ?a39 ?l39 ?c39 ?k39 ?a40 ?l40 ?c40 ?k40 ?a41 ?l41 ?c41 ?k41 ?a42 ?l42 ?c42 ?k42 ?a43 ?l43 ?c43 ?k43 ?a44 ?l44 ?c44 ?k44 ?a45 ?l45 ?c45 ?k45 ?a46 ?l46 ?c46 ?k46 ?a47 ?l47 ?c47 ?k47 ?a48 ?l48 ?c48 ?k48 ?a49 ?l49 ?c49 ?k49 ?a50 ?l50 ?c50 ?k50 ?a51 ?l51 ?c51 ?k51 ?a52 ?l52 ?c52 ?k52 ?a53 ?l53 ?c53 ?k53 ?a54 ?l54 ?c54 ?k54 ?a55 ?i55 ?l55 ?c55 ?k55 ?pg ?hd ?po ?sa ?mk ?kc ?n_reads ?n_prints ?n_block ?n_spots ?z_len ?z_all ?z_any ?z_int ?z_str ?z_bool ?z_list ?z_tuple ?z_range ?z_isinstance ?z_enumerate ?z_zip ?z_sorted ?aR ?lR ?aA ?lA ?vA_in ?vA_before ?vA_same ?vA_mark ?vA_not ?vA_and ?vA_or ?aB ?lB ?vB_for ?vB_mark ?vB_set ?vB_clear ?vB_if ?vB_print ?vB_copy ?aP ?lP ?vP_before ?vP_same ?hRv ?kA ?sA ?kB ?sB ?kP ?rPb ?rPs
    (case aC => k_is)
    (case a1 => k_is)
    (case l1 => k_is)
    (case c1 => k_is)
    (case k1 => k_is)
    (case a2 => k_is)
    (case l2 => k_is)
    (case c2 => k_is)
    (case k2 => k_is)
    (case a3 => k_is)
    (case l3 => k_is)
    (case c3 => k_is)
    (case k3 => k_is)
    (case a4 => k_is)
    (case l4 => k_is)
    (case c4 => k_is)
    (case k4 => k_is)
    (case a5 => k_is)
    (case l5 => k_is)
    (case c5 => k_is)
    (case k5 => k_is)
    (case a6 => k_is)
    (case l6 => k_is)
    (case c6 => k_is)
    (case k6 => k_is)
    (case a7 => k_is)
    (case l7 => k_is)
    (case c7 => k_is)
    (case k7 => k_is)
    (case a8 => k_is)
    (case l8 => k_is)
    (case c8 => k_is)
    (case k8 => k_is)
    (case a9 => k_is)
    (case l9 => k_is)
    (case c9 => k_is)
    (case k9 => k_is)
    (case a10 => k_is)
    (case l10 => k_is)
    (case c10 => k_is)
    (case k10 => k_is)
    (case a11 => k_is)
    (case l11 => k_is)
    (case c11 => k_is)
    (case k11 => k_is)
    (case a12 => k_is)
    (case l12 => k_is)
    (case c12 => k_is)
    (case k12 => k_is)
    (case a13 => k_is)
    (case l13 => k_is)
    (case c13 => k_is)
    (case k13 => k_is)
    (case a14 => k_is)
    (case l14 => k_is)
    (case c14 => k_is)
    (case k14 => k_is)
    (case a15 => k_is)
    (case l15 => k_is)
    (case c15 => k_is)
    (case k15 => k_is)
    (case a16 => k_is)
    (case l16 => k_is)
    (case c16 => k_is)
    (case k16 => k_is)
    (case a17 => k_is)
    (case l17 => k_is)
    (case c17 => k_is)
    (case k17 => k_is)
    (case a18 => k_is)
    (case l18 => k_is)
    (case c18 => k_is)
    (case k18 => k_is)
    (case a19 => k_is)
    (case l19 => k_is)
    (case c19 => k_is)
    (case k19 => k_is)
    (case a20 => k_is)
    (case l20 => k_is)
    (case c20 => k_is)
    (case k20 => k_is)
    (case a21 => k_is)
    (case l21 => k_is)
    (case c21 => k_is)
    (case k21 => k_is)
    (case a22 => k_is)
    (case l22 => k_is)
    (case c22 => k_is)
    (case k22 => k_is)
    (case a23 => k_is)
    (case l23 => k_is)
    (case c23 => k_is)
    (case k23 => k_is)
    (case a24 => k_is)
    (case l24 => k_is)
    (case c24 => k_is)
    (case k24 => k_is)
    (case a25 => k_is)
    (case l25 => k_is)
    (case c25 => k_is)
    (case k25 => k_is)
    (case a26 => k_is)
    (case l26 => k_is)
    (case c26 => k_is)
    (case k26 => k_is)
    (case a27 => k_is)
    (case l27 => k_is)
    (case c27 => k_is)
    (case k27 => k_is)
    (case a28 => k_is)
    (case l28 => k_is)
    (case c28 => k_is)
    (case k28 => k_is)
    (case a29 => k_is)
    (case l29 => k_is)
    (case c29 => k_is)
    (case k29 => k_is)
    (case a30 => k_is)
    (case l30 => k_is)
    (case c30 => k_is)
    (case k30 => k_is)
    (case a31 => k_is)
    (case l31 => k_is)
    (case c31 => k_is)
    (case k31 => k_is)
    (case a32 => k_is)
    (case l32 => k_is)
    (case c32 => k_is)
    (case k32 => k_is)
    (case a33 => k_is)
    (case l33 => k_is)
    (case c33 => k_is)
    (case k33 => k_is)
    (case a34 => k_is)
    (case l34 => k_is)
    (case c34 => k_is)
    (case k34 => k_is)
    (case a35 => k_is)
    (case l35 => k_is)
    (case c35 => k_is)
    (case k35 => k_is)
    (case a36 => k_is)
    (case l36 => k_is)
    (case c36 => k_is)
    (case k36 => k_is)
    (case a37 => k_is)
    (case l37 => k_is)
    (case c37 => k_is)
    (case k37 => k_is)
    (case a38 => k_is)
    (case l38 => k_is)
    (case c38 => k_is)
    (case k38 => k_is)
    (case a39 => k_is)
    (case l39 => k_is)
    (case c39 => k_is)
    (case k39 => k_is)
    (case a40 => k_is)
    (case l40 => k_is)
    (case c40 => k_is)
    (case k40 => k_is)
    (case a41 => k_is)
    (case l41 => k_is)
    (case c41 => k_is)
    (case k41 => k_is)
    (case a42 => k_is)
    (case l42 => k_is)
    (case c42 => k_is)
    (case k42 => k_is)
    (case a43 => k_is)
    (case l43 => k_is)
    (case c43 => k_is)
    (case k43 => k_is)
    (case a44 => k_is)
    (case l44 => k_is)
    (case c44 => k_is)
    (case k44 => k_is)
    (case a45 => k_is)
    (case l45 => k_is)
    (case c45 => k_is)
    (case k45 => k_is)
    (case a46 => k_is)
    (case l46 => k_is)
    (case c46 => k_is)
    (case k46 => k_is)
    (case a47 => k_is)
    (case l47 => k_is)
    (case c47 => k_is)
    (case k47 => k_is)
    (case a48 => k_is)
    (case l48 => k_is)
    (case c48 => k_is)
    (case k48 => k_is)
    (case a49 => k_is)
    (case l49 => k_is)
    (case c49 => k_is)
    (case k49 => k_is)
    (case a50 => k_is)
    (case l50 => k_is)
    (case c50 => k_is)
    (case k50 => k_is)
    (case a51 => k_is)
    (case l51 => k_is)
    (case c51 => k_is)
    (case k51 => k_is)
    (case a52 => k_is)
    (case l52 => k_is)
    (case c52 => k_is)
    (case k52 => k_is)
    (case a53 => k_is)
    (case l53 => k_is)
    (case c53 => k_is)
    (case k53 => k_is)
    (case a54 => k_is)
    (case l54 => k_is)
    (case c54 => k_is)
    (case k54 => k_is)
    (case a55 => k_is)
    (case i55 => k_is)
    (case l55 => k_is)
    (case c55 => k_is)
    (case k55 => k_is)
    (case pg => k_is)
    (case hd => k_is)
    (case po => k_is)
    (case sa => k_is)
    (case mk => k_is)
    (case kc => k_is)
    (case n_reads => k_is)
    (case n_prints => k_is)
    (case n_block => k_is)
    (case n_spots => k_is)
    (case z_len => k_is)
    (case z_all => k_is)
    (case z_any => k_is)
    (case z_int => k_is)
    (case z_str => k_is)
    (case z_bool => k_is)
    (case z_list => k_is)
    (case z_tuple => k_is)
    (case z_range => k_is)
    (case z_isinstance => k_is)
    (case z_enumerate => k_is)
    (case z_zip => k_is)
    (case z_sorted => k_is)
    (case aR => k_is)
    (case lR => k_is)
    (case aA => k_is)
    (case lA => k_is)
    (case vA_in => k_is)
    (case vA_before => k_is)
    (case vA_same => k_is)
    (case vA_mark => k_is)
    (case vA_not => k_is)
    (case vA_and => k_is)
    (case vA_or => k_is)
    (case aB => k_is)
    (case lB => k_is)
    (case vB_for => k_is)
    (case vB_mark => k_is)
    (case vB_set => k_is)
    (case vB_clear => k_is)
    (case vB_if => k_is)
    (case vB_print => k_is)
    (case vB_copy => k_is)
    (case aP => k_is)
    (case lP => k_is)
    (case vP_before => k_is)
    (case vP_same => k_is)
    (case hRv => exact ⟨rfl, _, _, rfl, by decide, .cons ⟨_, rfl⟩ (.cons ⟨_, rfl⟩ (.cons ⟨_, rfl⟩ (.cons ⟨_, rfl⟩ (.cons ⟨_, rfl⟩ (.cons ⟨_, rfl⟩ (.cons ⟨_, rfl⟩ (.cons ⟨_, rfl⟩ (.cons ⟨_, rfl⟩ (.cons ⟨_, rfl⟩ (.cons ⟨_, rfl⟩ (.cons ⟨_, rfl⟩ (.cons ⟨_, rfl⟩ (.cons ⟨_, rfl⟩ (.cons ⟨_, rfl⟩ (.cons ⟨_, rfl⟩ (.cons ⟨_, rfl⟩ (.cons ⟨_, rfl⟩ (.cons ⟨_, rfl⟩ (.nil)))))))))))))))))))⟩)
    (case kA => exact ⟨⟨_, _, rfl, rfl⟩, ⟨⟨_, _, rfl, rfl⟩, ⟨⟨_, _, rfl, rfl⟩, ⟨⟨_, _, rfl, rfl⟩, ⟨⟨_, _, rfl, rfl⟩, ⟨⟨_, _, rfl, rfl⟩, ⟨⟨_, _, rfl, rfl⟩, trivial⟩⟩⟩⟩⟩⟩⟩)
    (case kB => exact ⟨⟨_, _, rfl, rfl⟩, ⟨⟨_, _, rfl, rfl⟩, ⟨⟨_, _, rfl, rfl⟩, ⟨⟨_, _, rfl, rfl⟩, ⟨⟨_, _, rfl, rfl⟩, ⟨⟨_, _, rfl, rfl⟩, ⟨⟨_, _, rfl, rfl⟩, trivial⟩⟩⟩⟩⟩⟩⟩)
    (case kP => exact ⟨⟨_, _, rfl, rfl⟩, ⟨⟨_, _, rfl, rfl⟩, trivial⟩⟩)
    (case sA => rfl); (case sB => rfl); (case rPb => exact ⟨_, rfl⟩); (case rPs => exact ⟨_, rfl⟩)
#print axioms PySem.Challenge.cw_textloops_k12_written_programs_holds
