import PyProof.Rows.All
import Wide.All
import OpenK.AllK
import Wide.FinOn
import PyProof.EqAt
import PyProof.EqKinds
import PyProof.TupleCall
import Open.SpecLaws
import KE.OsGo
import PySem.Challenge.RW_notchedcards_s01_answers
import HandS.ForSpec
import HandS.Comp
import HandS.Iter
import HandS.Text
import HandS.Dict
import HandS.More
import HandS.Codes
import HandS.Walk
import HandS.Zip
import HandS.Conv
import HandS.Evl
import HandS.ExcField
import HandS.Head4
import HandS.HeadHook2
import Lean
import KE.BitLaws
import KE.OsArith
import HandS.ExcInit
import HandS.ExcSuper
import HandS.TryMany
set_option Elab.async false
set_option linter.all false
set_option maxRecDepth 100000
set_option maxHeartbeats 0
namespace N
open PySem PySem.Spec PyProof.Rows L2
/-! ### the text -/
def top (i : Nat) : Stmt := PySem.Challenge.pw_notchedcards_s01_answers.main.body.getD i (.Pass ⟨0, 0, 0, 0⟩)
abbrev s_Question_init : Stmt := inClass (top 5) 0
abbrev s_CardFile_init : Stmt := inClass (top 6) 0
abbrev s_Desk_init : Stmt := inClass (top 7) 0
abbrev s_empty_file : Stmt := top 8
abbrev s_with_line : Stmt := top 9
abbrev s_with_question : Stmt := top 10
abbrev s_without_question : Stmt := top 11
abbrev s_count_notchings : Stmt := top 12
abbrev s_count_cards : Stmt := top 13
abbrev s_count_fallen : Stmt := top 14
abbrev s_cards_by_notching : Stmt := top 15
abbrev s_right_piles : Stmt := top 16
abbrev s_hung_on : Stmt := top 17
abbrev s_hangs_on : Stmt := top 18
abbrev s_Refusal_init : Stmt := inClass (top 20) 0
abbrev s_NotText_init : Stmt := inClass (top 21) 0
abbrev s_NotInRange_init : Stmt := inClass (top 22) 0
abbrev s_NotQuestions_init : Stmt := inClass (top 23) 0
abbrev s_NoQuestion_init : Stmt := inClass (top 24) 0
abbrev s_NoNotching_init : Stmt := inClass (top 25) 0
abbrev s_NoCube_init : Stmt := inClass (top 26) 0
abbrev s_NotPlan_init : Stmt := inClass (top 27) 0
abbrev s_NotLabels_init : Stmt := inClass (top 28) 0
abbrev s_NoCards_init : Stmt := inClass (top 29) 0
abbrev s_TextFault_init : Stmt := inClass (top 30) 0
abbrev s_check_text : Stmt := top 34
abbrev s_check_below : Stmt := top 35
abbrev s_find_question : Stmt := top 36
abbrev s_find_questions : Stmt := top 37
abbrev s_check_labels : Stmt := top 38
abbrev s_count_cubes : Stmt := top 42
abbrev s_told_of : Stmt := top 43
abbrev s_lifted_half : Stmt := top 44
abbrev s_fallen_half : Stmt := top 45
abbrev s_halves_of : Stmt := top 46
abbrev s_notching_of : Stmt := top 47
abbrev s_Pack_init : Stmt := inClass (top 50) 0
abbrev s_Parting_init : Stmt := inClass (top 51) 0
abbrev s_part_by_plan : Stmt := top 52
abbrev s_number_at : Stmt := top 53
abbrev s_lay_down : Stmt := top 54
abbrev s_lifted_pack : Stmt := top 55
abbrev s_fallen_pack : Stmt := top 56
abbrev s_plan_cost : Stmt := top 57
abbrev s_first_misplaced : Stmt := top 58
abbrev s_Part_init : Stmt := inClass (top 60) 0
abbrev s_all_part : Stmt := top 61
abbrev s_none_part : Stmt := top 62
abbrev s_mark_part : Stmt := top 63
abbrev s_bracketed : Stmt := top 64
abbrev s_not_part : Stmt := top 65
abbrev s_and_part : Stmt := top 66
abbrev s_or_part : Stmt := top 67
abbrev s_sign_of : Stmt := top 76
abbrev s_spelled : Stmt := top 77
abbrev s_words_of : Stmt := top 78
abbrev s_Cursor_init : Stmt := inClass (top 79) 0
abbrev s_Cursor_word : Stmt := inClass (top 79) 1
abbrev s_Cursor_here : Stmt := inClass (top 79) 2
abbrev s_Cursor_advance : Stmt := inClass (top 79) 3
abbrev s_Cursor_take : Stmt := inClass (top 79) 4
abbrev s_Cursor_check : Stmt := inClass (top 79) 5
abbrev s_read_file : Stmt := top 85
abbrev s_read_put : Stmt := top 86
abbrev s_is_name : Stmt := top 87
abbrev s_is_mark : Stmt := top 88
abbrev s_read_marks : Stmt := top 89
abbrev s_read_line : Stmt := top 90
abbrev s_read_cards : Stmt := top 91
abbrev s_read_count : Stmt := top 92
abbrev s_read_notching : Stmt := top 93
abbrev s_read_question : Stmt := top 94
abbrev s_read_either : Stmt := top 95
abbrev s_read_both : Stmt := top 96
abbrev s_read_one : Stmt := top 97
abbrev s_read_opening : Stmt := top 98
abbrev s_Cube_init : Stmt := inClass (top 100) 0
abbrev s_make_table : Stmt := top 101
abbrev s_answered_cube : Stmt := top 102
abbrev s_joined_cube : Stmt := top 103
abbrev s_first_least : Stmt := top 104
abbrev s_whole_cube : Stmt := top 105
abbrev s_least_marks : Stmt := top 106
abbrev s_thumb_marks : Stmt := top 107
abbrev s_thumb_mark : Stmt := top 108
abbrev s_cost_and_row : Stmt := top 109
abbrev s_first_too_great : Stmt := top 110
abbrev s_greatest_label : Stmt := top 111
abbrev s_one_text : Stmt := top 113
abbrev s_notched_marks : Stmt := top 114
abbrev s_do_clear : Stmt := top 116
abbrev s_do_file : Stmt := top 117
abbrev s_do_look : Stmt := top 118
abbrev s_do_text : Stmt := top 119
abbrev s_do_put : Stmt := top 120
abbrev s_do_drop : Stmt := top 121
abbrev s_do_told : Stmt := top 122
abbrev s_do_truth : Stmt := top 123
abbrev s_do_falls : Stmt := top 124
abbrev s_do_equal : Stmt := top 125
abbrev s_do_within : Stmt := top 126
abbrev s_do_hangs : Stmt := top 127
abbrev s_table_of : Stmt := top 128
abbrev s_do_least : Stmt := top 129
abbrev s_do_cost : Stmt := top 130
abbrev s_do_labels : Stmt := top 131
abbrev s_do_accept : Stmt := top 132
abbrev s_do_deep : Stmt := top 133
abbrev s_do_card : Stmt := top 134
abbrev s_least_cost : Stmt := top 135
abbrev s_do_together : Stmt := top 136
abbrev s_greatest_divisor : Stmt := top 137
abbrev s_do_mean : Stmt := top 138
abbrev s_do_thumb : Stmt := top 139
abbrev s_do_cube : Stmt := top 140
abbrev s_number_count : Stmt := top 143
abbrev s_row_count : Stmt := top 144
abbrev s_answer_call : Stmt := top 145
abbrev s_answers : Stmt := top 147
abbrev s_read_rows : Stmt := top 148
/-! ### where things stand behind the top -/
def a_Question_init : Addr := 28
def a_CardFile_init : Addr := 49
def a_Desk_init : Addr := 70
def a_empty_file : Addr := 84
def a_with_line : Addr := 91
def a_with_question : Addr := 98
def a_without_question : Addr := 105
def a_count_notchings : Addr := 112
def a_count_cards : Addr := 117
def a_count_fallen : Addr := 122
def a_cards_by_notching : Addr := 129
def a_right_piles : Addr := 134
def a_hung_on : Addr := 139
def a_hangs_on : Addr := 146
def a_Refusal_init : Addr := 160
def a_NotText_init : Addr := 180
def a_NotInRange_init : Addr := 199
def a_NotQuestions_init : Addr := 218
def a_NoQuestion_init : Addr := 237
def a_NoNotching_init : Addr := 256
def a_NoCube_init : Addr := 275
def a_NotPlan_init : Addr := 294
def a_NotLabels_init : Addr := 313
def a_NoCards_init : Addr := 332
def a_TextFault_init : Addr := 351
def a_check_text : Addr := 363
def a_check_below : Addr := 370
def a_find_question : Addr := 377
def a_find_questions : Addr := 382
def a_check_labels : Addr := 389
def a_count_cubes : Addr := 397
def a_told_of : Addr := 404
def a_lifted_half : Addr := 411
def a_fallen_half : Addr := 418
def a_halves_of : Addr := 423
def a_notching_of : Addr := 428
def a_Pack_init : Addr := 442
def a_Parting_init : Addr := 463
def a_part_by_plan : Addr := 477
def a_number_at : Addr := 484
def a_lay_down : Addr := 491
def a_lifted_pack : Addr := 496
def a_fallen_pack : Addr := 501
def a_plan_cost : Addr := 506
def a_first_misplaced : Addr := 513
def a_Part_init : Addr := 527
def a_all_part : Addr := 541
def a_none_part : Addr := 548
def a_mark_part : Addr := 553
def a_bracketed : Addr := 560
def a_not_part : Addr := 565
def a_and_part : Addr := 570
def a_or_part : Addr := 575
def a_sign_of : Addr := 582
def a_spelled : Addr := 587
def a_words_of : Addr := 594
def a_Cursor_init : Addr := 608
def a_Cursor_word : Addr := 615
def a_Cursor_here : Addr := 622
def a_Cursor_advance : Addr := 629
def a_Cursor_take : Addr := 636
def a_Cursor_check : Addr := 643
def a_read_file : Addr := 658
def a_read_put : Addr := 665
def a_is_name : Addr := 672
def a_is_mark : Addr := 679
def a_read_marks : Addr := 686
def a_read_line : Addr := 693
def a_read_cards : Addr := 700
def a_read_count : Addr := 707
def a_read_notching : Addr := 714
def a_read_question : Addr := 719
def a_read_either : Addr := 726
def a_read_both : Addr := 733
def a_read_one : Addr := 740
def a_read_opening : Addr := 747
def a_Cube_init : Addr := 761
def a_make_table : Addr := 775
def a_answered_cube : Addr := 782
def a_joined_cube : Addr := 787
def a_first_least : Addr := 794
def a_whole_cube : Addr := 801
def a_least_marks : Addr := 806
def a_thumb_marks : Addr := 811
def a_thumb_mark : Addr := 816
def a_cost_and_row : Addr := 823
def a_first_too_great : Addr := 830
def a_greatest_label : Addr := 835
def a_one_text : Addr := 842
def a_notched_marks : Addr := 847
def a_do_clear : Addr := 854
def a_do_file : Addr := 861
def a_do_look : Addr := 868
def a_do_text : Addr := 873
def a_do_put : Addr := 880
def a_do_drop : Addr := 887
def a_do_told : Addr := 894
def a_do_truth : Addr := 901
def a_do_falls : Addr := 908
def a_do_equal : Addr := 915
def a_do_within : Addr := 922
def a_do_hangs : Addr := 929
def a_table_of : Addr := 936
def a_do_least : Addr := 943
def a_do_cost : Addr := 950
def a_do_labels : Addr := 955
def a_do_accept : Addr := 962
def a_do_deep : Addr := 969
def a_do_card : Addr := 976
def a_least_cost : Addr := 983
def a_do_together : Addr := 988
def a_greatest_divisor : Addr := 995
def a_do_mean : Addr := 1002
def a_do_thumb : Addr := 1009
def a_do_cube : Addr := 1016
def a_number_count : Addr := 1049
def a_row_count : Addr := 1056
def a_answer_call : Addr := 1063
def a_answers : Addr := 1068
def a_read_rows : Addr := 1075
def a_Question : Addr := 31
def a_CardFile : Addr := 52
def a_Desk : Addr := 73
def a_Refusal : Addr := 163
def a_NotText : Addr := 183
def a_NotInRange : Addr := 202
def a_NotQuestions : Addr := 221
def a_NoQuestion : Addr := 240
def a_NoNotching : Addr := 259
def a_NoCube : Addr := 278
def a_NotPlan : Addr := 297
def a_NotLabels : Addr := 316
def a_NoCards : Addr := 335
def a_TextFault : Addr := 354
def a_Pack : Addr := 445
def a_Parting : Addr := 466
def a_Part : Addr := 530
def a_Cursor : Addr := 646
def a_Cube : Addr := 764
def a_THREES : Addr := 390
def a_NO_MARKS : Addr := 651
def a_DOERS : Addr := 1017
def a_COUNTS : Addr := 1019
abbrev tailE : List Value := [.type "Exception", .type "BaseException", .type "object"]
/-- what the written part says of a refusal's class (at C), made by the def at fI -/
structure OxC (K : PySem.W.Frag) (mg : Str → Option Value) (x : Str) (C fI : Addr) : Prop where
  gC : mg x = some (.ref C)
  cls : ∃ nm q ns bs sn sub ab col dd k0 k1 k2 k3 k5, K.lookup C = some (excClassObj nm q C ns bs (.ref a_Refusal :: tailE) true sn sub ab col dd k0 k1 k2 k3 k5 "Exception.__new__")
  sa : PySem.W.findIn K (.ref C) "__setattr__" = some (some (.builtin "object.__setattr__"))
  nn : PySem.W.findIn K (.ref C) "number" = some none
  np : PySem.W.findIn K (.ref C) "place" = some none
  exC : PySem.W.subIn K (.ref C) (.type "BaseException") = some true
  tyC : PySem.W.typeIn K (.ref C) = some (.type "type")
  kC : PySem.W.keepIn K (.ref C) = true
  iC : PySem.W.findIn K (.ref C) "__init__" = some (some (.ref fI))
  tI : PySem.W.typeIn K (.ref fI) = some (.type "function")
  xf : XfC K C
  te : PySem.W.exmOne K (.ref C) (.ref a_Refusal) = some true
/-- .. of Refusal itself -/
structure RefC (K : PySem.W.Frag) (mg : Str → Option Value) : Prop where
  gR : mg "Refusal" = some (.ref a_Refusal)
  rd : PySem.W.readsIn K a_Refusal (.type "type") = true
  ga : PySem.W.specialIn K (.ref a_Refusal) "__getattribute__" = some (some (.builtin "type.__getattribute__"))
  fc : PySem.W.findCls K (.ref a_Refusal) (.type "type") "__init__" = some (.val (.ref a_Refusal_init))
  fn : ∃ fd, Fun K "__init__" "Refusal.__init__" s_Refusal_init a_Refusal_init fd
/-- a written dict with whole numbers as keys: what it holds at k -/
def WAt (K : PySem.W.Frag) (a : Addr) (k : Int) (v : Value) : Prop := ∃ es n, K.lookup a = some ⟨.type "dict", none, .dict es n, #[]⟩ ∧ (∀ e ∈ es.toList, ∃ k t, e.key = .int k t ∧ e.hash = hashInt k) ∧ findBy Value.isInt es k = some v
def doersA : List Addr := [a_do_clear, a_do_file, a_do_look, a_do_text, a_do_put, a_do_drop, a_do_told, a_do_truth, a_do_falls, a_do_equal, a_do_within, a_do_hangs, a_do_least, a_do_cost, a_do_labels, a_do_accept, a_do_deep, a_do_card, a_do_together, a_do_mean, a_do_thumb, a_do_cube]
def countsL : List (Nat × Nat) := [(0, 0), (0, 1), (0, 1), (0, 0), (0, 1), (1, 0), (0, 0), (1, 0), (1, 0), (2, 0), (2, 0), (1, 0), (0, 1), (0, 2), (0, 1), (0, 2), (0, 1), (1, 1), (0, 1), (0, 1), (0, 1), (1, 1)]
/-- what the top has written -/
structure Tx (K : PySem.W.Frag) (mg : Str → Option Value) : Prop where
  d_Question_init : ∃ fd, Fun K "__init__" "Question.__init__" s_Question_init a_Question_init fd
  d_CardFile_init : ∃ fd, Fun K "__init__" "CardFile.__init__" s_CardFile_init a_CardFile_init fd
  d_Desk_init : ∃ fd, Fun K "__init__" "Desk.__init__" s_Desk_init a_Desk_init fd
  d_empty_file : ∃ fd, Fun K "empty_file" "empty_file" s_empty_file a_empty_file fd
  g_empty_file : mg "empty_file" = some (.ref a_empty_file)
  d_with_line : ∃ fd, Fun K "with_line" "with_line" s_with_line a_with_line fd
  g_with_line : mg "with_line" = some (.ref a_with_line)
  d_with_question : ∃ fd, Fun K "with_question" "with_question" s_with_question a_with_question fd
  g_with_question : mg "with_question" = some (.ref a_with_question)
  d_without_question : ∃ fd, Fun K "without_question" "without_question" s_without_question a_without_question fd
  g_without_question : mg "without_question" = some (.ref a_without_question)
  d_count_notchings : ∃ fd, Fun K "count_notchings" "count_notchings" s_count_notchings a_count_notchings fd
  g_count_notchings : mg "count_notchings" = some (.ref a_count_notchings)
  d_count_cards : ∃ fd, Fun K "count_cards" "count_cards" s_count_cards a_count_cards fd
  g_count_cards : mg "count_cards" = some (.ref a_count_cards)
  d_count_fallen : ∃ fd, Fun K "count_fallen" "count_fallen" s_count_fallen a_count_fallen fd
  g_count_fallen : mg "count_fallen" = some (.ref a_count_fallen)
  d_cards_by_notching : ∃ fd, Fun K "cards_by_notching" "cards_by_notching" s_cards_by_notching a_cards_by_notching fd
  g_cards_by_notching : mg "cards_by_notching" = some (.ref a_cards_by_notching)
  d_right_piles : ∃ fd, Fun K "right_piles" "right_piles" s_right_piles a_right_piles fd
  g_right_piles : mg "right_piles" = some (.ref a_right_piles)
  d_hung_on : ∃ fd, Fun K "hung_on" "hung_on" s_hung_on a_hung_on fd
  g_hung_on : mg "hung_on" = some (.ref a_hung_on)
  d_hangs_on : ∃ fd, Fun K "hangs_on" "hangs_on" s_hangs_on a_hangs_on fd
  g_hangs_on : mg "hangs_on" = some (.ref a_hangs_on)
  d_check_text : ∃ fd, Fun K "check_text" "check_text" s_check_text a_check_text fd
  g_check_text : mg "check_text" = some (.ref a_check_text)
  d_check_below : ∃ fd, Fun K "check_below" "check_below" s_check_below a_check_below fd
  g_check_below : mg "check_below" = some (.ref a_check_below)
  d_find_question : ∃ fd, Fun K "find_question" "find_question" s_find_question a_find_question fd
  g_find_question : mg "find_question" = some (.ref a_find_question)
  d_find_questions : ∃ fd, Fun K "find_questions" "find_questions" s_find_questions a_find_questions fd
  g_find_questions : mg "find_questions" = some (.ref a_find_questions)
  d_check_labels : ∃ fd, Fun K "check_labels" "check_labels" s_check_labels a_check_labels fd
  g_check_labels : mg "check_labels" = some (.ref a_check_labels)
  d_count_cubes : ∃ fd, Fun K "count_cubes" "count_cubes" s_count_cubes a_count_cubes fd
  g_count_cubes : mg "count_cubes" = some (.ref a_count_cubes)
  d_told_of : ∃ fd, Fun K "told_of" "told_of" s_told_of a_told_of fd
  g_told_of : mg "told_of" = some (.ref a_told_of)
  d_lifted_half : ∃ fd, Fun K "lifted_half" "lifted_half" s_lifted_half a_lifted_half fd
  g_lifted_half : mg "lifted_half" = some (.ref a_lifted_half)
  d_fallen_half : ∃ fd, Fun K "fallen_half" "fallen_half" s_fallen_half a_fallen_half fd
  g_fallen_half : mg "fallen_half" = some (.ref a_fallen_half)
  d_halves_of : ∃ fd, Fun K "halves_of" "halves_of" s_halves_of a_halves_of fd
  g_halves_of : mg "halves_of" = some (.ref a_halves_of)
  d_notching_of : ∃ fd, Fun K "notching_of" "notching_of" s_notching_of a_notching_of fd
  g_notching_of : mg "notching_of" = some (.ref a_notching_of)
  d_Pack_init : ∃ fd, Fun K "__init__" "Pack.__init__" s_Pack_init a_Pack_init fd
  d_Parting_init : ∃ fd, Fun K "__init__" "Parting.__init__" s_Parting_init a_Parting_init fd
  d_part_by_plan : ∃ fd, Fun K "part_by_plan" "part_by_plan" s_part_by_plan a_part_by_plan fd
  g_part_by_plan : mg "part_by_plan" = some (.ref a_part_by_plan)
  d_number_at : ∃ fd, Fun K "number_at" "number_at" s_number_at a_number_at fd
  g_number_at : mg "number_at" = some (.ref a_number_at)
  d_lay_down : ∃ fd, Fun K "lay_down" "lay_down" s_lay_down a_lay_down fd
  g_lay_down : mg "lay_down" = some (.ref a_lay_down)
  d_lifted_pack : ∃ fd, Fun K "lifted_pack" "lifted_pack" s_lifted_pack a_lifted_pack fd
  g_lifted_pack : mg "lifted_pack" = some (.ref a_lifted_pack)
  d_fallen_pack : ∃ fd, Fun K "fallen_pack" "fallen_pack" s_fallen_pack a_fallen_pack fd
  g_fallen_pack : mg "fallen_pack" = some (.ref a_fallen_pack)
  d_plan_cost : ∃ fd, Fun K "plan_cost" "plan_cost" s_plan_cost a_plan_cost fd
  g_plan_cost : mg "plan_cost" = some (.ref a_plan_cost)
  d_first_misplaced : ∃ fd, Fun K "first_misplaced" "first_misplaced" s_first_misplaced a_first_misplaced fd
  g_first_misplaced : mg "first_misplaced" = some (.ref a_first_misplaced)
  d_Part_init : ∃ fd, Fun K "__init__" "Part.__init__" s_Part_init a_Part_init fd
  d_all_part : ∃ fd, Fun K "all_part" "all_part" s_all_part a_all_part fd
  g_all_part : mg "all_part" = some (.ref a_all_part)
  d_none_part : ∃ fd, Fun K "none_part" "none_part" s_none_part a_none_part fd
  g_none_part : mg "none_part" = some (.ref a_none_part)
  d_mark_part : ∃ fd, Fun K "mark_part" "mark_part" s_mark_part a_mark_part fd
  g_mark_part : mg "mark_part" = some (.ref a_mark_part)
  d_bracketed : ∃ fd, Fun K "bracketed" "bracketed" s_bracketed a_bracketed fd
  g_bracketed : mg "bracketed" = some (.ref a_bracketed)
  d_not_part : ∃ fd, Fun K "not_part" "not_part" s_not_part a_not_part fd
  g_not_part : mg "not_part" = some (.ref a_not_part)
  d_and_part : ∃ fd, Fun K "and_part" "and_part" s_and_part a_and_part fd
  g_and_part : mg "and_part" = some (.ref a_and_part)
  d_or_part : ∃ fd, Fun K "or_part" "or_part" s_or_part a_or_part fd
  g_or_part : mg "or_part" = some (.ref a_or_part)
  d_sign_of : ∃ fd, Fun K "sign_of" "sign_of" s_sign_of a_sign_of fd
  g_sign_of : mg "sign_of" = some (.ref a_sign_of)
  d_spelled : ∃ fd, Fun K "spelled" "spelled" s_spelled a_spelled fd
  g_spelled : mg "spelled" = some (.ref a_spelled)
  d_words_of : ∃ fd, Fun K "words_of" "words_of" s_words_of a_words_of fd
  g_words_of : mg "words_of" = some (.ref a_words_of)
  d_Cursor_init : ∃ fd, Fun K "__init__" "Cursor.__init__" s_Cursor_init a_Cursor_init fd
  d_Cursor_word : ∃ fd, Fun K "word" "Cursor.word" s_Cursor_word a_Cursor_word fd
  me_Cursor_word : Meth K a_Cursor "word" a_Cursor_word
  d_Cursor_here : ∃ fd, Fun K "here" "Cursor.here" s_Cursor_here a_Cursor_here fd
  me_Cursor_here : Meth K a_Cursor "here" a_Cursor_here
  d_Cursor_advance : ∃ fd, Fun K "advance" "Cursor.advance" s_Cursor_advance a_Cursor_advance fd
  me_Cursor_advance : Meth K a_Cursor "advance" a_Cursor_advance
  d_Cursor_take : ∃ fd, Fun K "take" "Cursor.take" s_Cursor_take a_Cursor_take fd
  me_Cursor_take : Meth K a_Cursor "take" a_Cursor_take
  d_Cursor_check : ∃ fd, Fun K "check" "Cursor.check" s_Cursor_check a_Cursor_check fd
  me_Cursor_check : Meth K a_Cursor "check" a_Cursor_check
  d_read_file : ∃ fd, Fun K "read_file" "read_file" s_read_file a_read_file fd
  g_read_file : mg "read_file" = some (.ref a_read_file)
  d_read_put : ∃ fd, Fun K "read_put" "read_put" s_read_put a_read_put fd
  g_read_put : mg "read_put" = some (.ref a_read_put)
  d_is_name : ∃ fd, Fun K "is_name" "is_name" s_is_name a_is_name fd
  g_is_name : mg "is_name" = some (.ref a_is_name)
  d_is_mark : ∃ fd, Fun K "is_mark" "is_mark" s_is_mark a_is_mark fd
  g_is_mark : mg "is_mark" = some (.ref a_is_mark)
  d_read_marks : ∃ fd, Fun K "read_marks" "read_marks" s_read_marks a_read_marks fd
  g_read_marks : mg "read_marks" = some (.ref a_read_marks)
  d_read_line : ∃ fd, Fun K "read_line" "read_line" s_read_line a_read_line fd
  g_read_line : mg "read_line" = some (.ref a_read_line)
  d_read_cards : ∃ fd, Fun K "read_cards" "read_cards" s_read_cards a_read_cards fd
  g_read_cards : mg "read_cards" = some (.ref a_read_cards)
  d_read_count : ∃ fd, Fun K "read_count" "read_count" s_read_count a_read_count fd
  g_read_count : mg "read_count" = some (.ref a_read_count)
  d_read_notching : ∃ fd, Fun K "read_notching" "read_notching" s_read_notching a_read_notching fd
  g_read_notching : mg "read_notching" = some (.ref a_read_notching)
  d_read_question : ∃ fd, Fun K "read_question" "read_question" s_read_question a_read_question fd
  g_read_question : mg "read_question" = some (.ref a_read_question)
  d_read_either : ∃ fd, Fun K "read_either" "read_either" s_read_either a_read_either fd
  g_read_either : mg "read_either" = some (.ref a_read_either)
  d_read_both : ∃ fd, Fun K "read_both" "read_both" s_read_both a_read_both fd
  g_read_both : mg "read_both" = some (.ref a_read_both)
  d_read_one : ∃ fd, Fun K "read_one" "read_one" s_read_one a_read_one fd
  g_read_one : mg "read_one" = some (.ref a_read_one)
  d_read_opening : ∃ fd, Fun K "read_opening" "read_opening" s_read_opening a_read_opening fd
  g_read_opening : mg "read_opening" = some (.ref a_read_opening)
  d_Cube_init : ∃ fd, Fun K "__init__" "Cube.__init__" s_Cube_init a_Cube_init fd
  d_make_table : ∃ fd, Fun K "make_table" "make_table" s_make_table a_make_table fd
  g_make_table : mg "make_table" = some (.ref a_make_table)
  d_answered_cube : ∃ fd, Fun K "answered_cube" "answered_cube" s_answered_cube a_answered_cube fd
  g_answered_cube : mg "answered_cube" = some (.ref a_answered_cube)
  d_joined_cube : ∃ fd, Fun K "joined_cube" "joined_cube" s_joined_cube a_joined_cube fd
  g_joined_cube : mg "joined_cube" = some (.ref a_joined_cube)
  d_first_least : ∃ fd, Fun K "first_least" "first_least" s_first_least a_first_least fd
  g_first_least : mg "first_least" = some (.ref a_first_least)
  d_whole_cube : ∃ fd, Fun K "whole_cube" "whole_cube" s_whole_cube a_whole_cube fd
  g_whole_cube : mg "whole_cube" = some (.ref a_whole_cube)
  d_least_marks : ∃ fd, Fun K "least_marks" "least_marks" s_least_marks a_least_marks fd
  g_least_marks : mg "least_marks" = some (.ref a_least_marks)
  d_thumb_marks : ∃ fd, Fun K "thumb_marks" "thumb_marks" s_thumb_marks a_thumb_marks fd
  g_thumb_marks : mg "thumb_marks" = some (.ref a_thumb_marks)
  d_thumb_mark : ∃ fd, Fun K "thumb_mark" "thumb_mark" s_thumb_mark a_thumb_mark fd
  g_thumb_mark : mg "thumb_mark" = some (.ref a_thumb_mark)
  d_cost_and_row : ∃ fd, Fun K "cost_and_row" "cost_and_row" s_cost_and_row a_cost_and_row fd
  g_cost_and_row : mg "cost_and_row" = some (.ref a_cost_and_row)
  d_first_too_great : ∃ fd, Fun K "first_too_great" "first_too_great" s_first_too_great a_first_too_great fd
  g_first_too_great : mg "first_too_great" = some (.ref a_first_too_great)
  d_greatest_label : ∃ fd, Fun K "greatest_label" "greatest_label" s_greatest_label a_greatest_label fd
  g_greatest_label : mg "greatest_label" = some (.ref a_greatest_label)
  d_one_text : ∃ fd, Fun K "one_text" "one_text" s_one_text a_one_text fd
  g_one_text : mg "one_text" = some (.ref a_one_text)
  d_notched_marks : ∃ fd, Fun K "notched_marks" "notched_marks" s_notched_marks a_notched_marks fd
  g_notched_marks : mg "notched_marks" = some (.ref a_notched_marks)
  d_do_clear : ∃ fd, Fun K "do_clear" "do_clear" s_do_clear a_do_clear fd
  g_do_clear : mg "do_clear" = some (.ref a_do_clear)
  d_do_file : ∃ fd, Fun K "do_file" "do_file" s_do_file a_do_file fd
  g_do_file : mg "do_file" = some (.ref a_do_file)
  d_do_look : ∃ fd, Fun K "do_look" "do_look" s_do_look a_do_look fd
  g_do_look : mg "do_look" = some (.ref a_do_look)
  d_do_text : ∃ fd, Fun K "do_text" "do_text" s_do_text a_do_text fd
  g_do_text : mg "do_text" = some (.ref a_do_text)
  d_do_put : ∃ fd, Fun K "do_put" "do_put" s_do_put a_do_put fd
  g_do_put : mg "do_put" = some (.ref a_do_put)
  d_do_drop : ∃ fd, Fun K "do_drop" "do_drop" s_do_drop a_do_drop fd
  g_do_drop : mg "do_drop" = some (.ref a_do_drop)
  d_do_told : ∃ fd, Fun K "do_told" "do_told" s_do_told a_do_told fd
  g_do_told : mg "do_told" = some (.ref a_do_told)
  d_do_truth : ∃ fd, Fun K "do_truth" "do_truth" s_do_truth a_do_truth fd
  g_do_truth : mg "do_truth" = some (.ref a_do_truth)
  d_do_falls : ∃ fd, Fun K "do_falls" "do_falls" s_do_falls a_do_falls fd
  g_do_falls : mg "do_falls" = some (.ref a_do_falls)
  d_do_equal : ∃ fd, Fun K "do_equal" "do_equal" s_do_equal a_do_equal fd
  g_do_equal : mg "do_equal" = some (.ref a_do_equal)
  d_do_within : ∃ fd, Fun K "do_within" "do_within" s_do_within a_do_within fd
  g_do_within : mg "do_within" = some (.ref a_do_within)
  d_do_hangs : ∃ fd, Fun K "do_hangs" "do_hangs" s_do_hangs a_do_hangs fd
  g_do_hangs : mg "do_hangs" = some (.ref a_do_hangs)
  d_table_of : ∃ fd, Fun K "table_of" "table_of" s_table_of a_table_of fd
  g_table_of : mg "table_of" = some (.ref a_table_of)
  d_do_least : ∃ fd, Fun K "do_least" "do_least" s_do_least a_do_least fd
  g_do_least : mg "do_least" = some (.ref a_do_least)
  d_do_cost : ∃ fd, Fun K "do_cost" "do_cost" s_do_cost a_do_cost fd
  g_do_cost : mg "do_cost" = some (.ref a_do_cost)
  d_do_labels : ∃ fd, Fun K "do_labels" "do_labels" s_do_labels a_do_labels fd
  g_do_labels : mg "do_labels" = some (.ref a_do_labels)
  d_do_accept : ∃ fd, Fun K "do_accept" "do_accept" s_do_accept a_do_accept fd
  g_do_accept : mg "do_accept" = some (.ref a_do_accept)
  d_do_deep : ∃ fd, Fun K "do_deep" "do_deep" s_do_deep a_do_deep fd
  g_do_deep : mg "do_deep" = some (.ref a_do_deep)
  d_do_card : ∃ fd, Fun K "do_card" "do_card" s_do_card a_do_card fd
  g_do_card : mg "do_card" = some (.ref a_do_card)
  d_least_cost : ∃ fd, Fun K "least_cost" "least_cost" s_least_cost a_least_cost fd
  g_least_cost : mg "least_cost" = some (.ref a_least_cost)
  d_do_together : ∃ fd, Fun K "do_together" "do_together" s_do_together a_do_together fd
  g_do_together : mg "do_together" = some (.ref a_do_together)
  d_greatest_divisor : ∃ fd, Fun K "greatest_divisor" "greatest_divisor" s_greatest_divisor a_greatest_divisor fd
  g_greatest_divisor : mg "greatest_divisor" = some (.ref a_greatest_divisor)
  d_do_mean : ∃ fd, Fun K "do_mean" "do_mean" s_do_mean a_do_mean fd
  g_do_mean : mg "do_mean" = some (.ref a_do_mean)
  d_do_thumb : ∃ fd, Fun K "do_thumb" "do_thumb" s_do_thumb a_do_thumb fd
  g_do_thumb : mg "do_thumb" = some (.ref a_do_thumb)
  d_do_cube : ∃ fd, Fun K "do_cube" "do_cube" s_do_cube a_do_cube fd
  g_do_cube : mg "do_cube" = some (.ref a_do_cube)
  d_number_count : ∃ fd, Fun K "number_count" "number_count" s_number_count a_number_count fd
  g_number_count : mg "number_count" = some (.ref a_number_count)
  d_row_count : ∃ fd, Fun K "row_count" "row_count" s_row_count a_row_count fd
  g_row_count : mg "row_count" = some (.ref a_row_count)
  d_answer_call : ∃ fd, Fun K "answer_call" "answer_call" s_answer_call a_answer_call fd
  g_answer_call : mg "answer_call" = some (.ref a_answer_call)
  d_answers : ∃ fd, Fun K "answers" "answers" s_answers a_answers fd
  g_answers : mg "answers" = some (.ref a_answers)
  d_read_rows : ∃ fd, Fun K "read_rows" "read_rows" s_read_rows a_read_rows fd
  g_read_rows : mg "read_rows" = some (.ref a_read_rows)
  g_Question : mg "Question" = some (.ref a_Question)
  cl_Question : Cls K a_Question
  mk_Question : Mk K a_Question a_Question_init
  na_Question_name : NoAttr K a_Question "name"
  na_Question_spoken : NoAttr K a_Question "spoken"
  na_Question_truth : NoAttr K a_Question "truth"
  g_CardFile : mg "CardFile" = some (.ref a_CardFile)
  cl_CardFile : Cls K a_CardFile
  mk_CardFile : Mk K a_CardFile a_CardFile_init
  na_CardFile_marks : NoAttr K a_CardFile "marks"
  na_CardFile_lines : NoAttr K a_CardFile "lines"
  na_CardFile_questions : NoAttr K a_CardFile "questions"
  g_Desk : mg "Desk" = some (.ref a_Desk)
  cl_Desk : Cls K a_Desk
  mk_Desk : Mk K a_Desk a_Desk_init
  na_Desk_card_file : NoAttr K a_Desk "card_file"
  g_Pack : mg "Pack" = some (.ref a_Pack)
  cl_Pack : Cls K a_Pack
  mk_Pack : Mk K a_Pack a_Pack_init
  na_Pack_notchings : NoAttr K a_Pack "notchings"
  na_Pack_needlings : NoAttr K a_Pack "needlings"
  g_Parting : mg "Parting" = some (.ref a_Parting)
  cl_Parting : Cls K a_Parting
  mk_Parting : Mk K a_Parting a_Parting_init
  na_Parting_piles : NoAttr K a_Parting "piles"
  na_Parting_needlings : NoAttr K a_Parting "needlings"
  na_Parting_deepest : NoAttr K a_Parting "deepest"
  g_Part : mg "Part" = some (.ref a_Part)
  cl_Part : Cls K a_Part
  mk_Part : Mk K a_Part a_Part_init
  na_Part_truth : NoAttr K a_Part "truth"
  na_Part_spoken : NoAttr K a_Part "spoken"
  na_Part_joint : NoAttr K a_Part "joint"
  g_Cursor : mg "Cursor" = some (.ref a_Cursor)
  cl_Cursor : Cls K a_Cursor
  mk_Cursor : Mk K a_Cursor a_Cursor_init
  na_Cursor_words : NoAttr K a_Cursor "words"
  na_Cursor_at : NoAttr K a_Cursor "at"
  g_Cube : mg "Cube" = some (.ref a_Cube)
  cl_Cube : Cls K a_Cube
  mk_Cube : Mk K a_Cube a_Cube_init
  na_Cube_halves : NoAttr K a_Cube "halves"
  na_Cube_cards : NoAttr K a_Cube "cards"
  na_Cube_pile : NoAttr K a_Cube "pile"
  na_Cube_cost : NoAttr K a_Cube "cost"
  na_Cube_mark : NoAttr K a_Cube "mark"
  na_Cube_depth : NoAttr K a_Cube "depth"
  f_enumerate : mg "enumerate" = none
  f_int : mg "int" = none
  f_len : mg "len" = none
  f_list : mg "list" = none
  f_max : mg "max" = none
  f_min : mg "min" = none
  f_ord : mg "ord" = none
  f_range : mg "range" = none
  f_str : mg "str" = none
  f_sum : mg "sum" = none
  f_zip : mg "zip" = none
  k_MOST_MARKS : ∃ u, mg "MOST_MARKS" = some u ∧ RelV (.int 6) u
  k_MOST_NOTCHINGS : ∃ u, mg "MOST_NOTCHINGS" = some u ∧ RelV (.int 64) u
  k_MOST_LINES : ∃ u, mg "MOST_LINES" = some u ∧ RelV (.int 30) u
  k_MOST_QUESTIONS : ∃ u, mg "MOST_QUESTIONS" = some u ∧ RelV (.int 6) u
  k_MOST_BYTES : ∃ u, mg "MOST_BYTES" = some u ∧ RelV (.int 2000) u
  k_MOST_LABEL : ∃ u, mg "MOST_LABEL" = some u ∧ RelV (.int 1000000000000) u
  k_MOST_CUBES : ∃ u, mg "MOST_CUBES" = some u ∧ RelV (.int 729) u
  k_THREES : ∃ u, mg "THREES" = some u ∧ RelV (.ref a_THREES) u
  k_MOST_PILE : ∃ u, mg "MOST_PILE" = some u ∧ RelV (.int 63) u
  k_BLANK : ∃ u, mg "BLANK" = some u ∧ RelV (.int 32) u
  k_LINE_FEED : ∃ u, mg "LINE_FEED" = some u ∧ RelV (.int 10) u
  k_LETTERS : ∃ u, mg "LETTERS" = some u ∧ RelV (.str "abcdefghijklmnopqrstuvwxyz") u
  k_DIGITS : ∃ u, mg "DIGITS" = some u ∧ RelV (.str "0123456789") u
  k_LINE_END : ∃ u, mg "LINE_END" = some u ∧ RelV (.str "\n") u
  k_TEXT_END : ∃ u, mg "TEXT_END" = some u ∧ RelV (.str ".") u
  k_STRANGE : ∃ u, mg "STRANGE" = some u ∧ RelV (.str "?") u
  k_MOST_CARDS : ∃ u, mg "MOST_CARDS" = some u ∧ RelV (.int 1000000) u
  k_MOST_LETTERS : ∃ u, mg "MOST_LETTERS" = some u ∧ RelV (.int 12) u
  k_MOST_OPENED : ∃ u, mg "MOST_OPENED" = some u ∧ RelV (.int 8) u
  k_NO_MARKS : ∃ u, mg "NO_MARKS" = some u ∧ RelV (.ref a_NO_MARKS) u
  k_DOERS : ∃ u, mg "DOERS" = some u ∧ RelV (.ref a_DOERS) u
  k_COUNTS : ∃ u, mg "COUNTS" = some u ∧ RelV (.ref a_COUNTS) u
  x_NotText : OxC K mg "NotText" a_NotText a_NotText_init
  d_NotText_init : ∃ fd, Fun K "__init__" "NotText.__init__" s_NotText_init a_NotText_init fd
  x_NotInRange : OxC K mg "NotInRange" a_NotInRange a_NotInRange_init
  d_NotInRange_init : ∃ fd, Fun K "__init__" "NotInRange.__init__" s_NotInRange_init a_NotInRange_init fd
  x_NotQuestions : OxC K mg "NotQuestions" a_NotQuestions a_NotQuestions_init
  d_NotQuestions_init : ∃ fd, Fun K "__init__" "NotQuestions.__init__" s_NotQuestions_init a_NotQuestions_init fd
  x_NoQuestion : OxC K mg "NoQuestion" a_NoQuestion a_NoQuestion_init
  d_NoQuestion_init : ∃ fd, Fun K "__init__" "NoQuestion.__init__" s_NoQuestion_init a_NoQuestion_init fd
  x_NoNotching : OxC K mg "NoNotching" a_NoNotching a_NoNotching_init
  d_NoNotching_init : ∃ fd, Fun K "__init__" "NoNotching.__init__" s_NoNotching_init a_NoNotching_init fd
  x_NoCube : OxC K mg "NoCube" a_NoCube a_NoCube_init
  d_NoCube_init : ∃ fd, Fun K "__init__" "NoCube.__init__" s_NoCube_init a_NoCube_init fd
  x_NotPlan : OxC K mg "NotPlan" a_NotPlan a_NotPlan_init
  d_NotPlan_init : ∃ fd, Fun K "__init__" "NotPlan.__init__" s_NotPlan_init a_NotPlan_init fd
  x_NotLabels : OxC K mg "NotLabels" a_NotLabels a_NotLabels_init
  d_NotLabels_init : ∃ fd, Fun K "__init__" "NotLabels.__init__" s_NotLabels_init a_NotLabels_init fd
  x_NoCards : OxC K mg "NoCards" a_NoCards a_NoCards_init
  d_NoCards_init : ∃ fd, Fun K "__init__" "NoCards.__init__" s_NoCards_init a_NoCards_init fd
  x_TextFault : OxC K mg "TextFault" a_TextFault a_TextFault_init
  d_TextFault_init : ∃ fd, Fun K "__init__" "TextFault.__init__" s_TextFault_init a_TextFault_init fd
  x_ref : RefC K mg
  x_tt : PySem.W.exmOne K (.ref a_TextFault) (.ref a_TextFault) = some true
  t_THREES : ∀ H, SqT K H a_THREES [.int 1, .int 3, .int 9, .int 27, .int 81, .int 243, .int 729]
  w_DOERS : ∀ (i : Nat) f, doersA[i]? = some f → WAt K a_DOERS i (.ref f)
  w_COUNTS : ∀ (i : Nat) x, countsL[i]? = some x → ∃ t, WAt K a_COUNTS i (.ref t) ∧ ∀ H, SqT K H t [.int (x.1 : Nat), .int (x.2 : Nat)]
  t_NO_MARKS : ∀ H, SqT K H a_NO_MARKS [.str "and", .str "or", .str "not", .str "all", .str "none"]
/-! ### a def, a class, a method that may be called -/
structure Cal (P : Program) (w : World) (K : PySem.W.Frag) (mg : Str → Option Value) (base : Heap) (CX : CXT) (k : Nat) (x : Str) (f : Addr) (sp : Sp) : Prop where
  ex : ∃ (fd : FuncData) (ps : List Str), FnOk P w K mg base CX k f fd ps sp ∧ Binds K fd ps []
  mgf : mg x = some (.ref f)
  kp : PySem.W.keepIn K (.ref f) = true
structure Mak (P : Program) (w : World) (K : PySem.W.Frag) (mg : Str → Option Value) (base : Heap) (k : Nat) (x : Str) (C : Addr) (sp : Sp) : Prop where
  ex : ∃ (f : Addr) (fd : FuncData) (ps : List Str), Mk K C f ∧ FnOk P w K mg base CX0 k f fd ps sp ∧ Binds K fd ps []
  mgf : mg x = some (.ref C)
structure Met (P : Program) (w : World) (K : PySem.W.Frag) (mg : Str → Option Value) (base : Heap) (CX : CXT) (k : Nat) (C : Addr) (m : Str) (sp : Sp) : Prop where
  ex : ∃ (f : Addr) (fd : FuncData) (ps : List Str), Meth K C m f ∧ FnOk P w K mg base CX k f fd ps sp ∧ Binds K fd ps []
  cl : Cls K C
section
variable {X : Cx} {CX : CXT} {k j : Nat} {f C : Addr} {x m : Str} {sp : Sp} {E : XK} {p pos apos : Pos} {e o : Expr} {es : List Expr} {t : TA} {ta : TE}
theorem pe_f (c : Cal X.prog X.w X.K X.mg X.base CX0 k x f sp) (hr : Room j X.A) (hk : k ≤ j) (hg : Gl X x) (ha : PA X (e :: es) t) (hdb : (x == ("__debug__" : Str)) = false := by decide)
    (he : starEach (e :: es) X.env = (false, eval e X.env) :: starEach es X.env := by rfl) (hpl : (backTo pos (starEach es X.env)).any (·.1) = false := by rfl) : PE X (.Call (.Name x p) (e :: es) [] pos) (tCall sp [] E0 t) := by
  obtain ⟨fd, ps, F, b⟩ := c.ex
  exact pe_call F (hr.mono hk) hg c.mgf c.kp b .nil pass0 ha hdb he hpl
theorem pe_fX (c : Cal X.prog X.w X.K X.mg X.base CX k x f sp) (hr : Room j X.A) (hk : k ≤ j) (hx : Passes CX X E) (hg : Gl X x) (ha : PA X (e :: es) t) (hdb : (x == ("__debug__" : Str)) = false := by decide)
    (he : starEach (e :: es) X.env = (false, eval e X.env) :: starEach es X.env := by rfl) (hpl : (backTo pos (starEach es X.env)).any (·.1) = false := by rfl) : PE X (.Call (.Name x p) (e :: es) [] pos) (tCall sp [] E t) := by
  obtain ⟨fd, ps, F, b⟩ := c.ex
  exact pe_call F (hr.mono hk) hg c.mgf c.kp b .nil hx ha hdb he hpl
theorem pe_f0 (c : Cal X.prog X.w X.K X.mg X.base CX0 k x f sp) (hr : Room j X.A) (hk : k ≤ j) (hg : Gl X x) (hdb : (x == ("__debug__" : Str)) = false := by decide) : PE X (.Call (.Name x p) [] [] pos) (tCall sp [] E0 tNil) := by
  obtain ⟨fd, ps, F, b⟩ := c.ex
  exact pe_call0 F (hr.mono hk) hg c.mgf c.kp b .nil pass0 hdb
theorem pe_k (c : Mak X.prog X.w X.K X.mg X.base k x C sp) (hr : Room j X.A) (hk : k + 1 ≤ j) (hg : Gl X x) (ha : PA X (e :: es) t) (hdb : (x == ("__debug__" : Str)) = false := by decide)
    (he : starEach (e :: es) X.env = (false, eval e X.env) :: starEach es X.env := by rfl) (hpl : (backTo pos (starEach es X.env)).any (·.1) = false := by rfl) : PE X (.Call (.Name x p) (e :: es) [] pos) (tMake C sp [] E0 t) := by
  obtain ⟨f, fd, ps, M, F, b⟩ := c.ex
  exact pe_make M F (hr.mono hk) hg c.mgf b .nil pass0 ha hdb he hpl
theorem pe_k0 (c : Mak X.prog X.w X.K X.mg X.base k x C sp) (hr : Room j X.A) (hk : k + 1 ≤ j) (hg : Gl X x) (hdb : (x == ("__debug__" : Str)) = false := by decide) : PE X (.Call (.Name x p) [] [] pos) (tMake C sp [] E0 tNil) := by
  obtain ⟨f, fd, ps, M, F, b⟩ := c.ex
  exact pe_make0 M F (hr.mono hk) hg c.mgf b .nil pass0 hdb
theorem pe_oX {pl : Sem Bool} (c : Met X.prog X.w X.K X.mg X.base CX k C m sp) (hr : Room j X.A) (hk : k ≤ j) (hx : Passes CX X E) (ho : PE X o ta) (ha : PA X (e :: es) t)
    (hst : starEach (e :: es) X.env = (false, eval e X.env) :: starEach es X.env := by rfl) (hpl : (backTo pos (starEach es X.env)).any (·.1) = false := by rfl)
    (ht : eval (.Call (.Attribute o m apos) (e :: es) [] pos) X.env = (do
      let ov ← eval o X.env
      standAt apos.atName
      let (f, first) ← holding [ov] (getMethod ov m pl)
      callWith pos f first (backTo pos (starEach (e :: es) X.env)) (backToKw pos (keywordEach [] X.env))) := by rfl) :
    PE X (.Call (.Attribute o m apos) (e :: es) [] pos) (tMeth C m sp [] E ta t) := by
  obtain ⟨f, fd, ps, hm, F, b⟩ := c.ex
  exact pe_meth (pl := pl) ho c.cl hm F (hr.mono hk) b .nil hx ha hst hpl ht
theorem pe_o0 {pl : Sem Bool} (c : Met X.prog X.w X.K X.mg X.base CX0 k C m sp) (hr : Room j X.A) (hk : k ≤ j) (ho : PE X o ta)
    (ht : eval (.Call (.Attribute o m apos) [] [] pos) X.env = (do
      let ov ← eval o X.env
      standAt apos.atName
      let (f, first) ← holding [ov] (getMethod ov m pl)
      callWith pos f first (backTo pos (starEach [] X.env)) (backToKw pos (keywordEach [] X.env))) := by rfl) :
    PE X (.Call (.Attribute o m apos) [] [] pos) (tMeth C m sp [] E0 ta tNil) := by
  obtain ⟨f, fd, ps, hm, F, b⟩ := c.ex
  exact pe_meth0 (pl := pl) ho c.cl hm F (hr.mono hk) b .nil pass0 ht
end
/-! ### heaps -/
abbrev Ex := Evl.Ex
theorem exr {H : Hp} : Ex H H := fun _ _ h => h
theorem ext {H H1 H2 : Hp} (a : Ex H H1) (b : Ex H1 H2) : Ex H H2 := fun x o h => b x o (a x o h)
theorem exn {H : Hp} {p : Addr} {o : HO} (h : H p = none) : Ex H (upd H p o) := Evl.Ex.new h
theorem qi {Q : VK} {i j : Int} {H : Hp} (e : i = j) (q : Q (.int j) H) : Q (.int i) H := e ▸ q
theorem qb {Q : VK} {i j : Bool} {H : Hp} (e : i = j) (q : Q (.bl j) H) : Q (.bl i) H := e ▸ q
theorem qs {Q : VK} {i j : Str} {H : Hp} (e : i = j) (q : Q (.str j) H) : Q (.str i) H := e ▸ q
theorem qv {Q : VK} {i j : V} {H : Hp} (e : i = j) (q : Q j H) : Q i H := e ▸ q
theorem ifT {c A B : Prop} [Decidable c] (h : c) (a : A) : if decide c = true then A else B := by
  rw [decide_eq_true h, if_pos rfl]
  exact a
theorem ifF {c A B : Prop} [Decidable c] (h : ¬ c) (b : B) : if decide c = true then A else B := by
  rw [decide_eq_false h, if_neg Bool.false_ne_true]
  exact b
theorem ifNT {c A B : Prop} [Decidable c] (h : ¬ c) (a : A) : if (!decide c) = true then A else B := by
  rw [decide_eq_false h]
  exact iteT a
theorem ifNF {c A B : Prop} [Decidable c] (h : c) (b : B) : if (!decide c) = true then A else B := by
  rw [decide_eq_true h]
  exact iteF b
theorem pos3 : (0 : Int) < 3 := by decide
end N
namespace N
open PySem PySem.Spec PyProof.Rows L2
open He (eqO eqO_ok ba relB relB_ok relAll relAll_ok)
/-! ### the facts of the top, each by a Bool over the written part, at its place -/
def gOk (K : PySem.W.Frag) (x : Str × Addr) : Bool := eqO (PySem.W.nsIn K mainGlobals x.1) (some (some (.ref x.2)))
def frOk (K : PySem.W.Frag) (x : Str) : Bool := eqO (PySem.W.nsIn K mainGlobals x) (some none)
def conOk (K : PySem.W.Frag) (x : Str × V) : Bool := match PySem.W.nsIn K mainGlobals x.1 with
  | some (some u) => relB x.2 u
  | _ => false
def clOk (K : PySem.W.Frag) (a : Addr) : Bool := PySem.W.plainGet K a Str.empty && (PySem.W.hasDictIn K a && (PySem.W.plainOver K a && eqO (PySem.W.findIn K (.ref a) "__setattr__") (some (some (.builtin "object.__setattr__")))))
def naOk (K : PySem.W.Frag) (x : Addr × Str) : Bool := eqO (PySem.W.findIn K (.ref x.1) x.2) (some none)
def meOk (K : PySem.W.Frag) (x : Addr × Str × Addr) : Bool := eqO (PySem.W.findIn K (.ref x.1) x.2.1) (some (some (.ref x.2.2))) && (PySem.W.isFn K (.ref x.2.2) && PySem.W.keepIn K (.ref x.2.2))
def mkOk (K : PySem.W.Frag) (x : Addr × Addr) : Bool := PySem.W.makesIn K x.1 && (eqO (PySem.W.findIn K (.ref x.1) "__init__") (some (some (.ref x.2))) && (PySem.W.isFn K (.ref x.2) && PySem.W.keepIn K (.ref x.1)))
/-- a def: its place, name, qualified name, statement -/
structure DefA where
  at_ : Addr
  name : Str
  qual : Str
  st : Stmt
def DefA.ok (K : PySem.W.Frag) (d : DefA) : Bool := PySem.W.keepIn K (.ref d.at_) && (match K.lookup d.at_ with
  | some ⟨_, _, .func fd, _⟩ => PySem.W.codeIn K fd.code d.qual
  | _ => false)
def fnA (K : PySem.W.Frag) (a : Addr) : He.FnV := match K.lookup a with
  | some ⟨_, _, .func fd, _⟩ => some (fd.name, fd.qualname, fd.params, fd.body, fd.scope, fd.globals, fd.closure, fd.defaults, fd.builtins)
  | _ => none
def DefA.val (d : DefA) : He.FnV := some (d.name, d.qual, defArgs d.st, .stmts (defBody d.st), defScope d.st, mainGlobals, [], .none, builtinsNs)
def exB (K : PySem.W.Frag) (C : Addr) : Bool := match K.lookup C with
  | some ⟨.type t, _, .cls cd, sl⟩ => decide (t = "type") && (decide (cd.mro = .ref C :: .ref a_Refusal :: tailE) && (cd.hasDict && (!cd.hasDel && match sl.toList with
    | [_, _, _, _, some (.builtin n), _] => decide (n = "Exception.__new__")
    | _ => false)))
  | _ => false
def oxOk (K : PySem.W.Frag) (x : Str × Addr × Addr) : Bool := gOk K (x.1, x.2.1) && (exB K x.2.1 && (eqO (PySem.W.findIn K (.ref x.2.1) "__setattr__") (some (some (.builtin "object.__setattr__"))) && (naOk K (x.2.1, "number") && (naOk K (x.2.1, "place") && (decide (PySem.W.subIn K (.ref x.2.1) (.type "BaseException") = some true) && (decide (PySem.W.typeIn K (.ref x.2.1) = some (.type "type")) && (PySem.W.keepIn K (.ref x.2.1) && (eqO (PySem.W.findIn K (.ref x.2.1) "__init__") (some (some (.ref x.2.2))) && (decide (PySem.W.typeIn K (.ref x.2.2) = some (.type "function")) && (xfB K x.2.1 && decide (PySem.W.exmOne K (.ref x.2.1) (.ref a_Refusal) = some true)))))))))))
def tupOk (K : PySem.W.Frag) (x : Addr × List V) : Bool := match K.lookup x.1 with
  | some ⟨.type c, _, .seq its _, _⟩ => decide (c = "tuple") && (decide (its.size ≤ sizeLine) && relAll x.2 its.toList)
  | _ => false
/-- a written dict: its keys 0, 1, .. in order, and what stands there -/
def keysB : Nat → List DictEntry → List Value → Bool
  | _, [], [] => true
  | n, e :: es, v :: vs => (match e.key with
    | .int k _ => decide (k = (n : Int)) && (decide (e.hash = hashInt k) && decide (e.val = v))
    | _ => false) && keysB (n + 1) es vs
  | _, _, _ => false
def dicOk (K : PySem.W.Frag) (a : Addr) (vs : List Value) : Bool := match K.lookup a with
  | some ⟨.type c, none, .dict es _, sl⟩ => decide (c = "dict") && (sl.isEmpty && keysB 0 es.toList vs)
  | _ => false
section
variable {K : PySem.W.Frag} {h : Heap} {mg : Str → Option Value}
theorem gOk_ok (X : K.In h) (G : h.Ns mainGlobals mg) {x : Str × Addr} (c : gOk K x = true) : mg x.1 = some (.ref x.2) := PySem.W.mg_of X G (eqO_ok c)
theorem frOk_ok (X : K.In h) (G : h.Ns mainGlobals mg) {x : Str} (c : frOk K x = true) : mg x = none := PySem.W.mg_none_of X G (eqO_ok c)
theorem conOk_ok (X : K.In h) (G : h.Ns mainGlobals mg) {x : Str × V} (c : conOk K x = true) : ∃ u, mg x.1 = some u ∧ RelV x.2 u := by
  unfold conOk at c
  cases e : PySem.W.nsIn K mainGlobals x.1 with
  | none => rw [e] at c; cases c
  | some o =>
    cases o with
    | none => rw [e] at c; cases c
    | some u =>
      rw [e] at c
      exact ⟨u, PySem.W.mg_of X G e, relB_ok c⟩
theorem clOk_ok {a : Addr} (c : clOk K a = true) : Cls K a := by
  obtain ⟨c1, c⟩ := ba c
  obtain ⟨c2, c⟩ := ba c
  obtain ⟨c3, c4⟩ := ba c
  exact ⟨c1, c2, c3, eqO_ok c4⟩
theorem naOk_ok {x : Addr × Str} (c : naOk K x = true) : NoAttr K x.1 x.2 := eqO_ok c
theorem meOk_ok {x : Addr × Str × Addr} (c : meOk K x = true) : Meth K x.1 x.2.1 x.2.2 := by
  obtain ⟨c1, c⟩ := ba c
  obtain ⟨c2, c3⟩ := ba c
  exact ⟨eqO_ok c1, c2, c3⟩
theorem mkOk_ok {x : Addr × Addr} (c : mkOk K x = true) : Mk K x.1 x.2 := by
  obtain ⟨c1, c⟩ := ba c
  obtain ⟨c2, c⟩ := ba c
  obtain ⟨c3, c4⟩ := ba c
  exact ⟨c1, eqO_ok c2, c3, c4⟩
theorem defA_ok {d : DefA} (e : fnA K d.at_ = d.val) (c : d.ok K = true) : ∃ fd, Fun K d.name d.qual d.st d.at_ fd := by
  obtain ⟨kp, c2⟩ := ba c
  unfold fnA at e
  cases q : K.lookup d.at_ with
  | none => rw [q] at c2; cases c2
  | some o =>
    obtain ⟨oc, od, dt, osl⟩ := o
    rw [q] at c2 e
    cases dt with
    | func fd =>
      obtain ⟨n1, n2, n3, n4, n5, n6, n7, n8, n9, n10, n11, n12, n13, n14, n15⟩ := fd
      have e2 : (some (n1, n2, n3, n4, n5, n6, n7, n8, n15) : He.FnV) = some (d.name, d.qual, defArgs d.st, .stmts (defBody d.st), defScope d.st, mainGlobals, [], .none, builtinsNs) := e
      simp only [Option.some.injEq, Prod.mk.injEq] at e2
      obtain ⟨h1, h2, h3, h4, h5, h6, h7, h8, h9⟩ := e2
      subst h1 h2 h3 h4 h5 h6 h7 h8 h9
      exact ⟨_, ⟨oc, od, n9, n10, n11, n12, n13, n14, osl, rfl, q, c2⟩, kp⟩
    | _ => cases c2
theorem exB_ok {C : Addr} (c : exB K C = true) : ∃ nm q ns bs sn sub ab col dd k0 k1 k2 k3 k5, K.lookup C = some (excClassObj nm q C ns bs (.ref a_Refusal :: tailE) true sn sub ab col dd k0 k1 k2 k3 k5 "Exception.__new__") := by
  unfold exB at c
  split at c
  · rename_i t dd cd sl ho
    obtain ⟨c1, d1⟩ := ba c
    obtain ⟨c2, d2⟩ := ba d1
    obtain ⟨c3, d3⟩ := ba d2
    obtain ⟨c4, d4⟩ := ba d3
    clear c d1 d2 d3
    split at d4
    · rename_i k0 k1 k2 k3 n k5 hs
      obtain ⟨nm, bs, mro, ns, qn, hd, sn, sub, ab, col, del⟩ := cd
      have e1 : t = "type" := of_decide_eq_true c1
      have e2 : mro = _ := of_decide_eq_true c2
      have e3 : hd = true := c3
      have e4 : del = false := by simpa using c4
      have e5 : n = "Exception.__new__" := of_decide_eq_true d4
      have hsl : sl = #[k0, k1, k2, k3, some (.builtin n), k5] := by
        obtain ⟨l⟩ := sl
        simp only at hs
        rw [hs]
      subst e1 e2 e3 e4 e5 hsl
      exact ⟨nm, qn, ns, bs, sn, sub, ab, col, dd, k0, k1, k2, k3, k5, ho⟩
    · cases d4
  · cases c
theorem oxOk_ok (X : K.In h) (G : h.Ns mainGlobals mg) {x : Str × Addr × Addr} (c : oxOk K x = true) : OxC K mg x.1 x.2.1 x.2.2 := by
  obtain ⟨c1, c⟩ := ba c
  obtain ⟨c2, c⟩ := ba c
  obtain ⟨c3, c⟩ := ba c
  obtain ⟨c4, c⟩ := ba c
  obtain ⟨c5, c⟩ := ba c
  obtain ⟨c6, c⟩ := ba c
  obtain ⟨c7, c⟩ := ba c
  obtain ⟨c8, c⟩ := ba c
  obtain ⟨c9, c⟩ := ba c
  obtain ⟨c10, c⟩ := ba c
  obtain ⟨c11, c12⟩ := ba c
  exact ⟨gOk_ok X G c1, exB_ok c2, eqO_ok c3, eqO_ok c4, eqO_ok c5, of_decide_eq_true c6, of_decide_eq_true c7, c8, eqO_ok c9, of_decide_eq_true c10, xfB_ok c11, of_decide_eq_true c12⟩
theorem tupOk_ok {x : Addr × List V} (c : tupOk K x = true) (H : Hp) : SqT K H x.1 x.2 := by
  unfold tupOk at c
  split at c
  · rename_i t dd its n sl ho
    obtain ⟨c1, c⟩ := ba c
    obtain ⟨c2, c3⟩ := ba c
    exact .inr ⟨_, its, n, ho, congrArg Value.type (of_decide_eq_true c1), rfl, of_decide_eq_true c2, relAll_ok c3⟩
  · cases c
theorem keysB_ok : ∀ (n : Nat) (es : List DictEntry) (vs : List Value), keysB n es vs = true → (∀ e ∈ es, ∃ k t, e.key = .int k t ∧ e.hash = hashInt k) ∧ ∀ (i : Nat) v, vs[i]? = some v → (es.find? fun e => Value.isInt ((n + i : Nat) : Int) e.key).map (·.val) = some v
  | _, [], [], _ => ⟨(fun _ h => nomatch h), (fun i v h => by cases h)⟩
  | _, [], _ :: _, h => by cases h
  | _, _ :: _, [], h => by cases h
  | n, e :: es, v :: vs, h => by
    obtain ⟨h1, h2⟩ := ba (show ((match e.key with
      | .int k _ => decide (k = (n : Int)) && (decide (e.hash = hashInt k) && decide (e.val = v))
      | _ => false) && keysB (n + 1) es vs) = true from h)
    obtain ⟨i1, i2⟩ := keysB_ok (n + 1) es vs h2
    split at h1
    · rename_i k t hk
      obtain ⟨a1, a2⟩ := ba h1
      obtain ⟨a2, a3⟩ := ba a2
      have a1 := of_decide_eq_true a1
      have a2 := of_decide_eq_true a2
      have a3 := of_decide_eq_true a3
      refine ⟨fun e' he => ?_, fun i u hu => ?_⟩
      · rcases List.mem_cons.mp he with rfl | he
        · exact ⟨k, t, hk, a2⟩
        · exact i1 e' he
      · cases i with
        | zero =>
          have hv : v = u := Option.some.inj hu
          rw [List.find?_cons, hk, a1, show Value.isInt ((n + 0 : Nat) : Int) (Value.int (n : Int) t) = true by simp [Value.isInt]]
          show some e.val = some u
          rw [a3, hv]
        | succ i =>
          have hne : Value.isInt ((n + (i + 1) : Nat) : Int) e.key = false := by
            rw [hk, a1]
            have : ¬ (((n + (i + 1) : Nat) : Int) = (n : Int)) := by omega
            simp [Value.isInt]
            omega
          rw [List.find?_cons, hne, show n + (i + 1) = n + 1 + i by omega]
          exact i2 i u hu
    · cases h1
theorem dicOk_ok {a : Addr} {vs : List Value} (c : dicOk K a vs = true) : ∀ (i : Nat) v, vs[i]? = some v → WAt K a i v := by
  unfold dicOk at c
  split at c
  · rename_i t es n sl ho
    obtain ⟨c1, c⟩ := ba c
    obtain ⟨c2, c3⟩ := ba c
    obtain ⟨i1, i2⟩ := keysB_ok 0 _ _ c3
    have e1 : t = "dict" := of_decide_eq_true c1
    have e2 : sl = #[] := Array.isEmpty_iff.mp c2
    subst e1 e2
    intro i v hv
    refine ⟨es, n, ho, i1, ?_⟩
    have := i2 i v hv
    rw [Nat.zero_add] at this
    obtain ⟨l⟩ := es
    unfold findBy
    rw [List.find?_toArray]
    exact this
  · cases c
end
end N
namespace N
open PySem PySem.Spec PyProof.Rows L2
open He (eqO eqO_ok ba relB relB_ok relAll relAll_ok)
def dfs0 : List DefA := [⟨a_Question_init, "__init__", "Question.__init__", s_Question_init⟩, ⟨a_CardFile_init, "__init__", "CardFile.__init__", s_CardFile_init⟩, ⟨a_Desk_init, "__init__", "Desk.__init__", s_Desk_init⟩, ⟨a_empty_file, "empty_file", "empty_file", s_empty_file⟩, ⟨a_with_line, "with_line", "with_line", s_with_line⟩, ⟨a_with_question, "with_question", "with_question", s_with_question⟩, ⟨a_without_question, "without_question", "without_question", s_without_question⟩, ⟨a_count_notchings, "count_notchings", "count_notchings", s_count_notchings⟩, ⟨a_count_cards, "count_cards", "count_cards", s_count_cards⟩, ⟨a_count_fallen, "count_fallen", "count_fallen", s_count_fallen⟩, ⟨a_cards_by_notching, "cards_by_notching", "cards_by_notching", s_cards_by_notching⟩, ⟨a_right_piles, "right_piles", "right_piles", s_right_piles⟩, ⟨a_hung_on, "hung_on", "hung_on", s_hung_on⟩, ⟨a_hangs_on, "hangs_on", "hangs_on", s_hangs_on⟩, ⟨a_Refusal_init, "__init__", "Refusal.__init__", s_Refusal_init⟩, ⟨a_NotText_init, "__init__", "NotText.__init__", s_NotText_init⟩, ⟨a_NotInRange_init, "__init__", "NotInRange.__init__", s_NotInRange_init⟩, ⟨a_NotQuestions_init, "__init__", "NotQuestions.__init__", s_NotQuestions_init⟩, ⟨a_NoQuestion_init, "__init__", "NoQuestion.__init__", s_NoQuestion_init⟩, ⟨a_NoNotching_init, "__init__", "NoNotching.__init__", s_NoNotching_init⟩, ⟨a_NoCube_init, "__init__", "NoCube.__init__", s_NoCube_init⟩, ⟨a_NotPlan_init, "__init__", "NotPlan.__init__", s_NotPlan_init⟩, ⟨a_NotLabels_init, "__init__", "NotLabels.__init__", s_NotLabels_init⟩, ⟨a_NoCards_init, "__init__", "NoCards.__init__", s_NoCards_init⟩, ⟨a_TextFault_init, "__init__", "TextFault.__init__", s_TextFault_init⟩, ⟨a_check_text, "check_text", "check_text", s_check_text⟩, ⟨a_check_below, "check_below", "check_below", s_check_below⟩, ⟨a_find_question, "find_question", "find_question", s_find_question⟩, ⟨a_find_questions, "find_questions", "find_questions", s_find_questions⟩, ⟨a_check_labels, "check_labels", "check_labels", s_check_labels⟩]
def dfs1 : List DefA := [⟨a_count_cubes, "count_cubes", "count_cubes", s_count_cubes⟩, ⟨a_told_of, "told_of", "told_of", s_told_of⟩, ⟨a_lifted_half, "lifted_half", "lifted_half", s_lifted_half⟩, ⟨a_fallen_half, "fallen_half", "fallen_half", s_fallen_half⟩, ⟨a_halves_of, "halves_of", "halves_of", s_halves_of⟩, ⟨a_notching_of, "notching_of", "notching_of", s_notching_of⟩, ⟨a_Pack_init, "__init__", "Pack.__init__", s_Pack_init⟩, ⟨a_Parting_init, "__init__", "Parting.__init__", s_Parting_init⟩, ⟨a_part_by_plan, "part_by_plan", "part_by_plan", s_part_by_plan⟩, ⟨a_number_at, "number_at", "number_at", s_number_at⟩, ⟨a_lay_down, "lay_down", "lay_down", s_lay_down⟩, ⟨a_lifted_pack, "lifted_pack", "lifted_pack", s_lifted_pack⟩, ⟨a_fallen_pack, "fallen_pack", "fallen_pack", s_fallen_pack⟩, ⟨a_plan_cost, "plan_cost", "plan_cost", s_plan_cost⟩, ⟨a_first_misplaced, "first_misplaced", "first_misplaced", s_first_misplaced⟩, ⟨a_Part_init, "__init__", "Part.__init__", s_Part_init⟩, ⟨a_all_part, "all_part", "all_part", s_all_part⟩, ⟨a_none_part, "none_part", "none_part", s_none_part⟩, ⟨a_mark_part, "mark_part", "mark_part", s_mark_part⟩, ⟨a_bracketed, "bracketed", "bracketed", s_bracketed⟩, ⟨a_not_part, "not_part", "not_part", s_not_part⟩, ⟨a_and_part, "and_part", "and_part", s_and_part⟩, ⟨a_or_part, "or_part", "or_part", s_or_part⟩, ⟨a_sign_of, "sign_of", "sign_of", s_sign_of⟩, ⟨a_spelled, "spelled", "spelled", s_spelled⟩, ⟨a_words_of, "words_of", "words_of", s_words_of⟩, ⟨a_Cursor_init, "__init__", "Cursor.__init__", s_Cursor_init⟩, ⟨a_Cursor_word, "word", "Cursor.word", s_Cursor_word⟩, ⟨a_Cursor_here, "here", "Cursor.here", s_Cursor_here⟩, ⟨a_Cursor_advance, "advance", "Cursor.advance", s_Cursor_advance⟩]
def dfs2 : List DefA := [⟨a_Cursor_take, "take", "Cursor.take", s_Cursor_take⟩, ⟨a_Cursor_check, "check", "Cursor.check", s_Cursor_check⟩, ⟨a_read_file, "read_file", "read_file", s_read_file⟩, ⟨a_read_put, "read_put", "read_put", s_read_put⟩, ⟨a_is_name, "is_name", "is_name", s_is_name⟩, ⟨a_is_mark, "is_mark", "is_mark", s_is_mark⟩, ⟨a_read_marks, "read_marks", "read_marks", s_read_marks⟩, ⟨a_read_line, "read_line", "read_line", s_read_line⟩, ⟨a_read_cards, "read_cards", "read_cards", s_read_cards⟩, ⟨a_read_count, "read_count", "read_count", s_read_count⟩, ⟨a_read_notching, "read_notching", "read_notching", s_read_notching⟩, ⟨a_read_question, "read_question", "read_question", s_read_question⟩, ⟨a_read_either, "read_either", "read_either", s_read_either⟩, ⟨a_read_both, "read_both", "read_both", s_read_both⟩, ⟨a_read_one, "read_one", "read_one", s_read_one⟩, ⟨a_read_opening, "read_opening", "read_opening", s_read_opening⟩, ⟨a_Cube_init, "__init__", "Cube.__init__", s_Cube_init⟩, ⟨a_make_table, "make_table", "make_table", s_make_table⟩, ⟨a_answered_cube, "answered_cube", "answered_cube", s_answered_cube⟩, ⟨a_joined_cube, "joined_cube", "joined_cube", s_joined_cube⟩, ⟨a_first_least, "first_least", "first_least", s_first_least⟩, ⟨a_whole_cube, "whole_cube", "whole_cube", s_whole_cube⟩, ⟨a_least_marks, "least_marks", "least_marks", s_least_marks⟩, ⟨a_thumb_marks, "thumb_marks", "thumb_marks", s_thumb_marks⟩, ⟨a_thumb_mark, "thumb_mark", "thumb_mark", s_thumb_mark⟩, ⟨a_cost_and_row, "cost_and_row", "cost_and_row", s_cost_and_row⟩, ⟨a_first_too_great, "first_too_great", "first_too_great", s_first_too_great⟩, ⟨a_greatest_label, "greatest_label", "greatest_label", s_greatest_label⟩, ⟨a_one_text, "one_text", "one_text", s_one_text⟩, ⟨a_notched_marks, "notched_marks", "notched_marks", s_notched_marks⟩]
def dfs3 : List DefA := [⟨a_do_clear, "do_clear", "do_clear", s_do_clear⟩, ⟨a_do_file, "do_file", "do_file", s_do_file⟩, ⟨a_do_look, "do_look", "do_look", s_do_look⟩, ⟨a_do_text, "do_text", "do_text", s_do_text⟩, ⟨a_do_put, "do_put", "do_put", s_do_put⟩, ⟨a_do_drop, "do_drop", "do_drop", s_do_drop⟩, ⟨a_do_told, "do_told", "do_told", s_do_told⟩, ⟨a_do_truth, "do_truth", "do_truth", s_do_truth⟩, ⟨a_do_falls, "do_falls", "do_falls", s_do_falls⟩, ⟨a_do_equal, "do_equal", "do_equal", s_do_equal⟩, ⟨a_do_within, "do_within", "do_within", s_do_within⟩, ⟨a_do_hangs, "do_hangs", "do_hangs", s_do_hangs⟩, ⟨a_table_of, "table_of", "table_of", s_table_of⟩, ⟨a_do_least, "do_least", "do_least", s_do_least⟩, ⟨a_do_cost, "do_cost", "do_cost", s_do_cost⟩, ⟨a_do_labels, "do_labels", "do_labels", s_do_labels⟩, ⟨a_do_accept, "do_accept", "do_accept", s_do_accept⟩, ⟨a_do_deep, "do_deep", "do_deep", s_do_deep⟩, ⟨a_do_card, "do_card", "do_card", s_do_card⟩, ⟨a_least_cost, "least_cost", "least_cost", s_least_cost⟩, ⟨a_do_together, "do_together", "do_together", s_do_together⟩, ⟨a_greatest_divisor, "greatest_divisor", "greatest_divisor", s_greatest_divisor⟩, ⟨a_do_mean, "do_mean", "do_mean", s_do_mean⟩, ⟨a_do_thumb, "do_thumb", "do_thumb", s_do_thumb⟩, ⟨a_do_cube, "do_cube", "do_cube", s_do_cube⟩, ⟨a_number_count, "number_count", "number_count", s_number_count⟩, ⟨a_row_count, "row_count", "row_count", s_row_count⟩, ⟨a_answer_call, "answer_call", "answer_call", s_answer_call⟩, ⟨a_answers, "answers", "answers", s_answers⟩, ⟨a_read_rows, "read_rows", "read_rows", s_read_rows⟩]
def dfs : List DefA := dfs0 ++ (dfs1 ++ (dfs2 ++ (dfs3)))
def globs0 : List (Str × Addr) := [("empty_file", a_empty_file), ("with_line", a_with_line), ("with_question", a_with_question), ("without_question", a_without_question), ("count_notchings", a_count_notchings), ("count_cards", a_count_cards), ("count_fallen", a_count_fallen), ("cards_by_notching", a_cards_by_notching), ("right_piles", a_right_piles), ("hung_on", a_hung_on), ("hangs_on", a_hangs_on), ("check_text", a_check_text), ("check_below", a_check_below), ("find_question", a_find_question), ("find_questions", a_find_questions), ("check_labels", a_check_labels), ("count_cubes", a_count_cubes), ("told_of", a_told_of), ("lifted_half", a_lifted_half), ("fallen_half", a_fallen_half), ("halves_of", a_halves_of), ("notching_of", a_notching_of), ("part_by_plan", a_part_by_plan), ("number_at", a_number_at), ("lay_down", a_lay_down), ("lifted_pack", a_lifted_pack), ("fallen_pack", a_fallen_pack), ("plan_cost", a_plan_cost), ("first_misplaced", a_first_misplaced), ("all_part", a_all_part)]
def globs1 : List (Str × Addr) := [("none_part", a_none_part), ("mark_part", a_mark_part), ("bracketed", a_bracketed), ("not_part", a_not_part), ("and_part", a_and_part), ("or_part", a_or_part), ("sign_of", a_sign_of), ("spelled", a_spelled), ("words_of", a_words_of), ("read_file", a_read_file), ("read_put", a_read_put), ("is_name", a_is_name), ("is_mark", a_is_mark), ("read_marks", a_read_marks), ("read_line", a_read_line), ("read_cards", a_read_cards), ("read_count", a_read_count), ("read_notching", a_read_notching), ("read_question", a_read_question), ("read_either", a_read_either), ("read_both", a_read_both), ("read_one", a_read_one), ("read_opening", a_read_opening), ("make_table", a_make_table), ("answered_cube", a_answered_cube), ("joined_cube", a_joined_cube), ("first_least", a_first_least), ("whole_cube", a_whole_cube), ("least_marks", a_least_marks), ("thumb_marks", a_thumb_marks)]
def globs2 : List (Str × Addr) := [("thumb_mark", a_thumb_mark), ("cost_and_row", a_cost_and_row), ("first_too_great", a_first_too_great), ("greatest_label", a_greatest_label), ("one_text", a_one_text), ("notched_marks", a_notched_marks), ("do_clear", a_do_clear), ("do_file", a_do_file), ("do_look", a_do_look), ("do_text", a_do_text), ("do_put", a_do_put), ("do_drop", a_do_drop), ("do_told", a_do_told), ("do_truth", a_do_truth), ("do_falls", a_do_falls), ("do_equal", a_do_equal), ("do_within", a_do_within), ("do_hangs", a_do_hangs), ("table_of", a_table_of), ("do_least", a_do_least), ("do_cost", a_do_cost), ("do_labels", a_do_labels), ("do_accept", a_do_accept), ("do_deep", a_do_deep), ("do_card", a_do_card), ("least_cost", a_least_cost), ("do_together", a_do_together), ("greatest_divisor", a_greatest_divisor), ("do_mean", a_do_mean), ("do_thumb", a_do_thumb)]
def globs3 : List (Str × Addr) := [("do_cube", a_do_cube), ("number_count", a_number_count), ("row_count", a_row_count), ("answer_call", a_answer_call), ("answers", a_answers), ("read_rows", a_read_rows), ("Question", a_Question), ("CardFile", a_CardFile), ("Desk", a_Desk), ("Pack", a_Pack), ("Parting", a_Parting), ("Part", a_Part), ("Cursor", a_Cursor), ("Cube", a_Cube)]
def globs : List (Str × Addr) := globs0 ++ (globs1 ++ (globs2 ++ (globs3)))
def mes0 : List (Addr × Str × Addr) := [(a_Cursor, "word", a_Cursor_word), (a_Cursor, "here", a_Cursor_here), (a_Cursor, "advance", a_Cursor_advance), (a_Cursor, "take", a_Cursor_take), (a_Cursor, "check", a_Cursor_check)]
def mes : List (Addr × Str × Addr) := mes0
def clss0 : List Addr := [a_Question, a_CardFile, a_Desk, a_Pack, a_Parting, a_Part, a_Cursor, a_Cube]
def clss : List Addr := clss0
def mks0 : List (Addr × Addr) := [(a_Question, a_Question_init), (a_CardFile, a_CardFile_init), (a_Desk, a_Desk_init), (a_Pack, a_Pack_init), (a_Parting, a_Parting_init), (a_Part, a_Part_init), (a_Cursor, a_Cursor_init), (a_Cube, a_Cube_init)]
def mks : List (Addr × Addr) := mks0
def nas0 : List (Addr × Str) := [(a_Question, "name"), (a_Question, "spoken"), (a_Question, "truth"), (a_CardFile, "marks"), (a_CardFile, "lines"), (a_CardFile, "questions"), (a_Desk, "card_file"), (a_Pack, "notchings"), (a_Pack, "needlings"), (a_Parting, "piles"), (a_Parting, "needlings"), (a_Parting, "deepest"), (a_Part, "truth"), (a_Part, "spoken"), (a_Part, "joint"), (a_Cursor, "words"), (a_Cursor, "at"), (a_Cube, "halves"), (a_Cube, "cards"), (a_Cube, "pile"), (a_Cube, "cost"), (a_Cube, "mark"), (a_Cube, "depth")]
def nas : List (Addr × Str) := nas0
def oxs0 : List (Str × Addr × Addr) := [("NotText", a_NotText, a_NotText_init), ("NotInRange", a_NotInRange, a_NotInRange_init), ("NotQuestions", a_NotQuestions, a_NotQuestions_init), ("NoQuestion", a_NoQuestion, a_NoQuestion_init), ("NoNotching", a_NoNotching, a_NoNotching_init), ("NoCube", a_NoCube, a_NoCube_init), ("NotPlan", a_NotPlan, a_NotPlan_init), ("NotLabels", a_NotLabels, a_NotLabels_init), ("NoCards", a_NoCards, a_NoCards_init), ("TextFault", a_TextFault, a_TextFault_init)]
def oxs : List (Str × Addr × Addr) := oxs0
def cons0 : List (Str × V) := [("MOST_MARKS", .int 6), ("MOST_NOTCHINGS", .int 64), ("MOST_LINES", .int 30), ("MOST_QUESTIONS", .int 6), ("MOST_BYTES", .int 2000), ("MOST_LABEL", .int 1000000000000), ("MOST_CUBES", .int 729), ("THREES", .ref a_THREES), ("MOST_PILE", .int 63), ("BLANK", .int 32), ("LINE_FEED", .int 10), ("LETTERS", .str "abcdefghijklmnopqrstuvwxyz"), ("DIGITS", .str "0123456789"), ("LINE_END", .str "\n"), ("TEXT_END", .str "."), ("STRANGE", .str "?"), ("MOST_CARDS", .int 1000000), ("MOST_LETTERS", .int 12), ("MOST_OPENED", .int 8), ("NO_MARKS", .ref a_NO_MARKS), ("DOERS", .ref a_DOERS), ("COUNTS", .ref a_COUNTS)]
def cons : List (Str × V) := cons0
def frs_0 : List Str := ["enumerate", "int", "len", "list", "max", "min", "ord", "range", "str", "sum", "zip"]
def frs_ : List Str := frs_0
def countsA : List Addr := [1020, 1021, 1022, 1023, 1024, 1025, 1026, 1027, 1028, 1029, 1030, 1031, 1032, 1033, 1034, 1035, 1036, 1038, 1039, 1040, 1041, 1042]
def REFD : Nat := 14
def refOk (K : PySem.W.Frag) : Bool := gOk K ("Refusal", a_Refusal) && (PySem.W.readsIn K a_Refusal (.type "type") && (eqO (PySem.W.specialIn K (.ref a_Refusal) "__getattribute__") (some (some (.builtin "type.__getattribute__"))) && (match PySem.W.findCls K (.ref a_Refusal) (.type "type") "__init__" with
  | some (.val (.ref a)) => decide (a = a_Refusal_init)
  | _ => false)))
theorem refOk_ok {K : PySem.W.Frag} {h : Heap} {mg : Str → Option Value} (X : K.In h) (G : h.Ns mainGlobals mg) (hf : ∃ fd, Fun K "__init__" "Refusal.__init__" s_Refusal_init a_Refusal_init fd) (c : refOk K = true) : RefC K mg := by
  obtain ⟨c1, d1⟩ := ba c
  obtain ⟨c2, d2⟩ := ba d1
  obtain ⟨c3, d3⟩ := ba d2
  refine ⟨gOk_ok X G c1, c2, eqO_ok c3, ?_, hf⟩
  split at d3
  · rename_i a e
    rw [e, of_decide_eq_true d3]
  · cases d3
def cntOk (K : PySem.W.Frag) (x : Addr × Nat × Nat) : Bool := tupOk K (x.1, [.int (x.2.1 : Nat), .int (x.2.2 : Nat)])
def partA (K : PySem.W.Frag) : Bool := globs.all (gOk K) && (frs_.all (frOk K) && cons.all (conOk K))
def partB (K : PySem.W.Frag) : Bool := mes.all (meOk K) && (clss.all (clOk K) && (mks.all (mkOk K) && nas.all (naOk K)))
def partC (K : PySem.W.Frag) : Bool := oxs.all (oxOk K) && (refOk K && (decide (PySem.W.exmOne K (.ref a_TextFault) (.ref a_TextFault) = some true) && (tupOk K (a_THREES, [.int 1, .int 3, .int 9, .int 27, .int 81, .int 243, .int 729]) && (tupOk K (a_NO_MARKS, [.str "and", .str "or", .str "not", .str "all", .str "none"]) && (dicOk K a_DOERS (doersA.map .ref) && (dicOk K a_COUNTS (countsA.map .ref) && (countsA.zip countsL).all (cntOk K)))))))
def partD (K : PySem.W.Frag) : Bool := dfs.all fun d => d.ok K
def fnsA (K : PySem.W.Frag) : List He.FnV := dfs.map fun d => fnA K d.at_
theorem aget {α : Type} {l : List α} {p : α → Bool} (h : l.all p = true) (i : Nat) {x : α} (hx : l[i]? = some x) : p x = true := List.all_eq_true.mp h x (List.mem_of_getElem? hx)
theorem dget {K : PySem.W.Frag} (hd : fnsA K = dfs.map DefA.val) (hc : partD K = true) {d : DefA} (i : Nat) (hi : dfs[i]? = some d) : ∃ fd, Fun K d.name d.qual d.st d.at_ fd := by
  have e : (dfs.map fun d => fnA K d.at_)[i]? = (dfs.map DefA.val)[i]? := congrArg (fun l : List He.FnV => l[i]?) hd
  rw [List.getElem?_map, List.getElem?_map, hi] at e
  exact defA_ok (Option.some.inj e) (aget hc i hi)
theorem tx_of {K : PySem.W.Frag} {h : Heap} {mg : Str → Option Value} (X : K.In h) (G : h.Ns mainGlobals mg) (hA : partA K = true) (hB : partB K = true) (hC : partC K = true) (hc : partD K = true) (hd : fnsA K = dfs.map DefA.val) : Tx K mg := by
  obtain ⟨hg, d1⟩ := ba hA
  obtain ⟨hfr, hco⟩ := ba d1
  obtain ⟨hme, d2⟩ := ba hB
  obtain ⟨hcl, d3⟩ := ba d2
  obtain ⟨hmk, hna⟩ := ba d3
  obtain ⟨hox, e1⟩ := ba hC
  obtain ⟨href, e2⟩ := ba e1
  obtain ⟨htt, e3⟩ := ba e2
  obtain ⟨ht1, e4⟩ := ba e3
  obtain ⟨ht2, e5⟩ := ba e4
  obtain ⟨hdo, e6⟩ := ba e5
  obtain ⟨hdc, hcn⟩ := ba e6
  exact {
  d_Question_init := dget hd hc (d := ⟨a_Question_init, "__init__", "Question.__init__", s_Question_init⟩) 0 rfl
  d_CardFile_init := dget hd hc (d := ⟨a_CardFile_init, "__init__", "CardFile.__init__", s_CardFile_init⟩) 1 rfl
  d_Desk_init := dget hd hc (d := ⟨a_Desk_init, "__init__", "Desk.__init__", s_Desk_init⟩) 2 rfl
  d_empty_file := dget hd hc (d := ⟨a_empty_file, "empty_file", "empty_file", s_empty_file⟩) 3 rfl
  g_empty_file := gOk_ok X G (x := ("empty_file", a_empty_file)) (aget hg 0 rfl)
  d_with_line := dget hd hc (d := ⟨a_with_line, "with_line", "with_line", s_with_line⟩) 4 rfl
  g_with_line := gOk_ok X G (x := ("with_line", a_with_line)) (aget hg 1 rfl)
  d_with_question := dget hd hc (d := ⟨a_with_question, "with_question", "with_question", s_with_question⟩) 5 rfl
  g_with_question := gOk_ok X G (x := ("with_question", a_with_question)) (aget hg 2 rfl)
  d_without_question := dget hd hc (d := ⟨a_without_question, "without_question", "without_question", s_without_question⟩) 6 rfl
  g_without_question := gOk_ok X G (x := ("without_question", a_without_question)) (aget hg 3 rfl)
  d_count_notchings := dget hd hc (d := ⟨a_count_notchings, "count_notchings", "count_notchings", s_count_notchings⟩) 7 rfl
  g_count_notchings := gOk_ok X G (x := ("count_notchings", a_count_notchings)) (aget hg 4 rfl)
  d_count_cards := dget hd hc (d := ⟨a_count_cards, "count_cards", "count_cards", s_count_cards⟩) 8 rfl
  g_count_cards := gOk_ok X G (x := ("count_cards", a_count_cards)) (aget hg 5 rfl)
  d_count_fallen := dget hd hc (d := ⟨a_count_fallen, "count_fallen", "count_fallen", s_count_fallen⟩) 9 rfl
  g_count_fallen := gOk_ok X G (x := ("count_fallen", a_count_fallen)) (aget hg 6 rfl)
  d_cards_by_notching := dget hd hc (d := ⟨a_cards_by_notching, "cards_by_notching", "cards_by_notching", s_cards_by_notching⟩) 10 rfl
  g_cards_by_notching := gOk_ok X G (x := ("cards_by_notching", a_cards_by_notching)) (aget hg 7 rfl)
  d_right_piles := dget hd hc (d := ⟨a_right_piles, "right_piles", "right_piles", s_right_piles⟩) 11 rfl
  g_right_piles := gOk_ok X G (x := ("right_piles", a_right_piles)) (aget hg 8 rfl)
  d_hung_on := dget hd hc (d := ⟨a_hung_on, "hung_on", "hung_on", s_hung_on⟩) 12 rfl
  g_hung_on := gOk_ok X G (x := ("hung_on", a_hung_on)) (aget hg 9 rfl)
  d_hangs_on := dget hd hc (d := ⟨a_hangs_on, "hangs_on", "hangs_on", s_hangs_on⟩) 13 rfl
  g_hangs_on := gOk_ok X G (x := ("hangs_on", a_hangs_on)) (aget hg 10 rfl)
  d_NotText_init := dget hd hc (d := ⟨a_NotText_init, "__init__", "NotText.__init__", s_NotText_init⟩) 15 rfl
  d_NotInRange_init := dget hd hc (d := ⟨a_NotInRange_init, "__init__", "NotInRange.__init__", s_NotInRange_init⟩) 16 rfl
  d_NotQuestions_init := dget hd hc (d := ⟨a_NotQuestions_init, "__init__", "NotQuestions.__init__", s_NotQuestions_init⟩) 17 rfl
  d_NoQuestion_init := dget hd hc (d := ⟨a_NoQuestion_init, "__init__", "NoQuestion.__init__", s_NoQuestion_init⟩) 18 rfl
  d_NoNotching_init := dget hd hc (d := ⟨a_NoNotching_init, "__init__", "NoNotching.__init__", s_NoNotching_init⟩) 19 rfl
  d_NoCube_init := dget hd hc (d := ⟨a_NoCube_init, "__init__", "NoCube.__init__", s_NoCube_init⟩) 20 rfl
  d_NotPlan_init := dget hd hc (d := ⟨a_NotPlan_init, "__init__", "NotPlan.__init__", s_NotPlan_init⟩) 21 rfl
  d_NotLabels_init := dget hd hc (d := ⟨a_NotLabels_init, "__init__", "NotLabels.__init__", s_NotLabels_init⟩) 22 rfl
  d_NoCards_init := dget hd hc (d := ⟨a_NoCards_init, "__init__", "NoCards.__init__", s_NoCards_init⟩) 23 rfl
  d_TextFault_init := dget hd hc (d := ⟨a_TextFault_init, "__init__", "TextFault.__init__", s_TextFault_init⟩) 24 rfl
  d_check_text := dget hd hc (d := ⟨a_check_text, "check_text", "check_text", s_check_text⟩) 25 rfl
  g_check_text := gOk_ok X G (x := ("check_text", a_check_text)) (aget hg 11 rfl)
  d_check_below := dget hd hc (d := ⟨a_check_below, "check_below", "check_below", s_check_below⟩) 26 rfl
  g_check_below := gOk_ok X G (x := ("check_below", a_check_below)) (aget hg 12 rfl)
  d_find_question := dget hd hc (d := ⟨a_find_question, "find_question", "find_question", s_find_question⟩) 27 rfl
  g_find_question := gOk_ok X G (x := ("find_question", a_find_question)) (aget hg 13 rfl)
  d_find_questions := dget hd hc (d := ⟨a_find_questions, "find_questions", "find_questions", s_find_questions⟩) 28 rfl
  g_find_questions := gOk_ok X G (x := ("find_questions", a_find_questions)) (aget hg 14 rfl)
  d_check_labels := dget hd hc (d := ⟨a_check_labels, "check_labels", "check_labels", s_check_labels⟩) 29 rfl
  g_check_labels := gOk_ok X G (x := ("check_labels", a_check_labels)) (aget hg 15 rfl)
  d_count_cubes := dget hd hc (d := ⟨a_count_cubes, "count_cubes", "count_cubes", s_count_cubes⟩) 30 rfl
  g_count_cubes := gOk_ok X G (x := ("count_cubes", a_count_cubes)) (aget hg 16 rfl)
  d_told_of := dget hd hc (d := ⟨a_told_of, "told_of", "told_of", s_told_of⟩) 31 rfl
  g_told_of := gOk_ok X G (x := ("told_of", a_told_of)) (aget hg 17 rfl)
  d_lifted_half := dget hd hc (d := ⟨a_lifted_half, "lifted_half", "lifted_half", s_lifted_half⟩) 32 rfl
  g_lifted_half := gOk_ok X G (x := ("lifted_half", a_lifted_half)) (aget hg 18 rfl)
  d_fallen_half := dget hd hc (d := ⟨a_fallen_half, "fallen_half", "fallen_half", s_fallen_half⟩) 33 rfl
  g_fallen_half := gOk_ok X G (x := ("fallen_half", a_fallen_half)) (aget hg 19 rfl)
  d_halves_of := dget hd hc (d := ⟨a_halves_of, "halves_of", "halves_of", s_halves_of⟩) 34 rfl
  g_halves_of := gOk_ok X G (x := ("halves_of", a_halves_of)) (aget hg 20 rfl)
  d_notching_of := dget hd hc (d := ⟨a_notching_of, "notching_of", "notching_of", s_notching_of⟩) 35 rfl
  g_notching_of := gOk_ok X G (x := ("notching_of", a_notching_of)) (aget hg 21 rfl)
  d_Pack_init := dget hd hc (d := ⟨a_Pack_init, "__init__", "Pack.__init__", s_Pack_init⟩) 36 rfl
  d_Parting_init := dget hd hc (d := ⟨a_Parting_init, "__init__", "Parting.__init__", s_Parting_init⟩) 37 rfl
  d_part_by_plan := dget hd hc (d := ⟨a_part_by_plan, "part_by_plan", "part_by_plan", s_part_by_plan⟩) 38 rfl
  g_part_by_plan := gOk_ok X G (x := ("part_by_plan", a_part_by_plan)) (aget hg 22 rfl)
  d_number_at := dget hd hc (d := ⟨a_number_at, "number_at", "number_at", s_number_at⟩) 39 rfl
  g_number_at := gOk_ok X G (x := ("number_at", a_number_at)) (aget hg 23 rfl)
  d_lay_down := dget hd hc (d := ⟨a_lay_down, "lay_down", "lay_down", s_lay_down⟩) 40 rfl
  g_lay_down := gOk_ok X G (x := ("lay_down", a_lay_down)) (aget hg 24 rfl)
  d_lifted_pack := dget hd hc (d := ⟨a_lifted_pack, "lifted_pack", "lifted_pack", s_lifted_pack⟩) 41 rfl
  g_lifted_pack := gOk_ok X G (x := ("lifted_pack", a_lifted_pack)) (aget hg 25 rfl)
  d_fallen_pack := dget hd hc (d := ⟨a_fallen_pack, "fallen_pack", "fallen_pack", s_fallen_pack⟩) 42 rfl
  g_fallen_pack := gOk_ok X G (x := ("fallen_pack", a_fallen_pack)) (aget hg 26 rfl)
  d_plan_cost := dget hd hc (d := ⟨a_plan_cost, "plan_cost", "plan_cost", s_plan_cost⟩) 43 rfl
  g_plan_cost := gOk_ok X G (x := ("plan_cost", a_plan_cost)) (aget hg 27 rfl)
  d_first_misplaced := dget hd hc (d := ⟨a_first_misplaced, "first_misplaced", "first_misplaced", s_first_misplaced⟩) 44 rfl
  g_first_misplaced := gOk_ok X G (x := ("first_misplaced", a_first_misplaced)) (aget hg 28 rfl)
  d_Part_init := dget hd hc (d := ⟨a_Part_init, "__init__", "Part.__init__", s_Part_init⟩) 45 rfl
  d_all_part := dget hd hc (d := ⟨a_all_part, "all_part", "all_part", s_all_part⟩) 46 rfl
  g_all_part := gOk_ok X G (x := ("all_part", a_all_part)) (aget hg 29 rfl)
  d_none_part := dget hd hc (d := ⟨a_none_part, "none_part", "none_part", s_none_part⟩) 47 rfl
  g_none_part := gOk_ok X G (x := ("none_part", a_none_part)) (aget hg 30 rfl)
  d_mark_part := dget hd hc (d := ⟨a_mark_part, "mark_part", "mark_part", s_mark_part⟩) 48 rfl
  g_mark_part := gOk_ok X G (x := ("mark_part", a_mark_part)) (aget hg 31 rfl)
  d_bracketed := dget hd hc (d := ⟨a_bracketed, "bracketed", "bracketed", s_bracketed⟩) 49 rfl
  g_bracketed := gOk_ok X G (x := ("bracketed", a_bracketed)) (aget hg 32 rfl)
  d_not_part := dget hd hc (d := ⟨a_not_part, "not_part", "not_part", s_not_part⟩) 50 rfl
  g_not_part := gOk_ok X G (x := ("not_part", a_not_part)) (aget hg 33 rfl)
  d_and_part := dget hd hc (d := ⟨a_and_part, "and_part", "and_part", s_and_part⟩) 51 rfl
  g_and_part := gOk_ok X G (x := ("and_part", a_and_part)) (aget hg 34 rfl)
  d_or_part := dget hd hc (d := ⟨a_or_part, "or_part", "or_part", s_or_part⟩) 52 rfl
  g_or_part := gOk_ok X G (x := ("or_part", a_or_part)) (aget hg 35 rfl)
  d_sign_of := dget hd hc (d := ⟨a_sign_of, "sign_of", "sign_of", s_sign_of⟩) 53 rfl
  g_sign_of := gOk_ok X G (x := ("sign_of", a_sign_of)) (aget hg 36 rfl)
  d_spelled := dget hd hc (d := ⟨a_spelled, "spelled", "spelled", s_spelled⟩) 54 rfl
  g_spelled := gOk_ok X G (x := ("spelled", a_spelled)) (aget hg 37 rfl)
  d_words_of := dget hd hc (d := ⟨a_words_of, "words_of", "words_of", s_words_of⟩) 55 rfl
  g_words_of := gOk_ok X G (x := ("words_of", a_words_of)) (aget hg 38 rfl)
  d_Cursor_init := dget hd hc (d := ⟨a_Cursor_init, "__init__", "Cursor.__init__", s_Cursor_init⟩) 56 rfl
  d_Cursor_word := dget hd hc (d := ⟨a_Cursor_word, "word", "Cursor.word", s_Cursor_word⟩) 57 rfl
  me_Cursor_word := meOk_ok (x := (a_Cursor, "word", a_Cursor_word)) (aget hme 0 rfl)
  d_Cursor_here := dget hd hc (d := ⟨a_Cursor_here, "here", "Cursor.here", s_Cursor_here⟩) 58 rfl
  me_Cursor_here := meOk_ok (x := (a_Cursor, "here", a_Cursor_here)) (aget hme 1 rfl)
  d_Cursor_advance := dget hd hc (d := ⟨a_Cursor_advance, "advance", "Cursor.advance", s_Cursor_advance⟩) 59 rfl
  me_Cursor_advance := meOk_ok (x := (a_Cursor, "advance", a_Cursor_advance)) (aget hme 2 rfl)
  d_Cursor_take := dget hd hc (d := ⟨a_Cursor_take, "take", "Cursor.take", s_Cursor_take⟩) 60 rfl
  me_Cursor_take := meOk_ok (x := (a_Cursor, "take", a_Cursor_take)) (aget hme 3 rfl)
  d_Cursor_check := dget hd hc (d := ⟨a_Cursor_check, "check", "Cursor.check", s_Cursor_check⟩) 61 rfl
  me_Cursor_check := meOk_ok (x := (a_Cursor, "check", a_Cursor_check)) (aget hme 4 rfl)
  d_read_file := dget hd hc (d := ⟨a_read_file, "read_file", "read_file", s_read_file⟩) 62 rfl
  g_read_file := gOk_ok X G (x := ("read_file", a_read_file)) (aget hg 39 rfl)
  d_read_put := dget hd hc (d := ⟨a_read_put, "read_put", "read_put", s_read_put⟩) 63 rfl
  g_read_put := gOk_ok X G (x := ("read_put", a_read_put)) (aget hg 40 rfl)
  d_is_name := dget hd hc (d := ⟨a_is_name, "is_name", "is_name", s_is_name⟩) 64 rfl
  g_is_name := gOk_ok X G (x := ("is_name", a_is_name)) (aget hg 41 rfl)
  d_is_mark := dget hd hc (d := ⟨a_is_mark, "is_mark", "is_mark", s_is_mark⟩) 65 rfl
  g_is_mark := gOk_ok X G (x := ("is_mark", a_is_mark)) (aget hg 42 rfl)
  d_read_marks := dget hd hc (d := ⟨a_read_marks, "read_marks", "read_marks", s_read_marks⟩) 66 rfl
  g_read_marks := gOk_ok X G (x := ("read_marks", a_read_marks)) (aget hg 43 rfl)
  d_read_line := dget hd hc (d := ⟨a_read_line, "read_line", "read_line", s_read_line⟩) 67 rfl
  g_read_line := gOk_ok X G (x := ("read_line", a_read_line)) (aget hg 44 rfl)
  d_read_cards := dget hd hc (d := ⟨a_read_cards, "read_cards", "read_cards", s_read_cards⟩) 68 rfl
  g_read_cards := gOk_ok X G (x := ("read_cards", a_read_cards)) (aget hg 45 rfl)
  d_read_count := dget hd hc (d := ⟨a_read_count, "read_count", "read_count", s_read_count⟩) 69 rfl
  g_read_count := gOk_ok X G (x := ("read_count", a_read_count)) (aget hg 46 rfl)
  d_read_notching := dget hd hc (d := ⟨a_read_notching, "read_notching", "read_notching", s_read_notching⟩) 70 rfl
  g_read_notching := gOk_ok X G (x := ("read_notching", a_read_notching)) (aget hg 47 rfl)
  d_read_question := dget hd hc (d := ⟨a_read_question, "read_question", "read_question", s_read_question⟩) 71 rfl
  g_read_question := gOk_ok X G (x := ("read_question", a_read_question)) (aget hg 48 rfl)
  d_read_either := dget hd hc (d := ⟨a_read_either, "read_either", "read_either", s_read_either⟩) 72 rfl
  g_read_either := gOk_ok X G (x := ("read_either", a_read_either)) (aget hg 49 rfl)
  d_read_both := dget hd hc (d := ⟨a_read_both, "read_both", "read_both", s_read_both⟩) 73 rfl
  g_read_both := gOk_ok X G (x := ("read_both", a_read_both)) (aget hg 50 rfl)
  d_read_one := dget hd hc (d := ⟨a_read_one, "read_one", "read_one", s_read_one⟩) 74 rfl
  g_read_one := gOk_ok X G (x := ("read_one", a_read_one)) (aget hg 51 rfl)
  d_read_opening := dget hd hc (d := ⟨a_read_opening, "read_opening", "read_opening", s_read_opening⟩) 75 rfl
  g_read_opening := gOk_ok X G (x := ("read_opening", a_read_opening)) (aget hg 52 rfl)
  d_Cube_init := dget hd hc (d := ⟨a_Cube_init, "__init__", "Cube.__init__", s_Cube_init⟩) 76 rfl
  d_make_table := dget hd hc (d := ⟨a_make_table, "make_table", "make_table", s_make_table⟩) 77 rfl
  g_make_table := gOk_ok X G (x := ("make_table", a_make_table)) (aget hg 53 rfl)
  d_answered_cube := dget hd hc (d := ⟨a_answered_cube, "answered_cube", "answered_cube", s_answered_cube⟩) 78 rfl
  g_answered_cube := gOk_ok X G (x := ("answered_cube", a_answered_cube)) (aget hg 54 rfl)
  d_joined_cube := dget hd hc (d := ⟨a_joined_cube, "joined_cube", "joined_cube", s_joined_cube⟩) 79 rfl
  g_joined_cube := gOk_ok X G (x := ("joined_cube", a_joined_cube)) (aget hg 55 rfl)
  d_first_least := dget hd hc (d := ⟨a_first_least, "first_least", "first_least", s_first_least⟩) 80 rfl
  g_first_least := gOk_ok X G (x := ("first_least", a_first_least)) (aget hg 56 rfl)
  d_whole_cube := dget hd hc (d := ⟨a_whole_cube, "whole_cube", "whole_cube", s_whole_cube⟩) 81 rfl
  g_whole_cube := gOk_ok X G (x := ("whole_cube", a_whole_cube)) (aget hg 57 rfl)
  d_least_marks := dget hd hc (d := ⟨a_least_marks, "least_marks", "least_marks", s_least_marks⟩) 82 rfl
  g_least_marks := gOk_ok X G (x := ("least_marks", a_least_marks)) (aget hg 58 rfl)
  d_thumb_marks := dget hd hc (d := ⟨a_thumb_marks, "thumb_marks", "thumb_marks", s_thumb_marks⟩) 83 rfl
  g_thumb_marks := gOk_ok X G (x := ("thumb_marks", a_thumb_marks)) (aget hg 59 rfl)
  d_thumb_mark := dget hd hc (d := ⟨a_thumb_mark, "thumb_mark", "thumb_mark", s_thumb_mark⟩) 84 rfl
  g_thumb_mark := gOk_ok X G (x := ("thumb_mark", a_thumb_mark)) (aget hg 60 rfl)
  d_cost_and_row := dget hd hc (d := ⟨a_cost_and_row, "cost_and_row", "cost_and_row", s_cost_and_row⟩) 85 rfl
  g_cost_and_row := gOk_ok X G (x := ("cost_and_row", a_cost_and_row)) (aget hg 61 rfl)
  d_first_too_great := dget hd hc (d := ⟨a_first_too_great, "first_too_great", "first_too_great", s_first_too_great⟩) 86 rfl
  g_first_too_great := gOk_ok X G (x := ("first_too_great", a_first_too_great)) (aget hg 62 rfl)
  d_greatest_label := dget hd hc (d := ⟨a_greatest_label, "greatest_label", "greatest_label", s_greatest_label⟩) 87 rfl
  g_greatest_label := gOk_ok X G (x := ("greatest_label", a_greatest_label)) (aget hg 63 rfl)
  d_one_text := dget hd hc (d := ⟨a_one_text, "one_text", "one_text", s_one_text⟩) 88 rfl
  g_one_text := gOk_ok X G (x := ("one_text", a_one_text)) (aget hg 64 rfl)
  d_notched_marks := dget hd hc (d := ⟨a_notched_marks, "notched_marks", "notched_marks", s_notched_marks⟩) 89 rfl
  g_notched_marks := gOk_ok X G (x := ("notched_marks", a_notched_marks)) (aget hg 65 rfl)
  d_do_clear := dget hd hc (d := ⟨a_do_clear, "do_clear", "do_clear", s_do_clear⟩) 90 rfl
  g_do_clear := gOk_ok X G (x := ("do_clear", a_do_clear)) (aget hg 66 rfl)
  d_do_file := dget hd hc (d := ⟨a_do_file, "do_file", "do_file", s_do_file⟩) 91 rfl
  g_do_file := gOk_ok X G (x := ("do_file", a_do_file)) (aget hg 67 rfl)
  d_do_look := dget hd hc (d := ⟨a_do_look, "do_look", "do_look", s_do_look⟩) 92 rfl
  g_do_look := gOk_ok X G (x := ("do_look", a_do_look)) (aget hg 68 rfl)
  d_do_text := dget hd hc (d := ⟨a_do_text, "do_text", "do_text", s_do_text⟩) 93 rfl
  g_do_text := gOk_ok X G (x := ("do_text", a_do_text)) (aget hg 69 rfl)
  d_do_put := dget hd hc (d := ⟨a_do_put, "do_put", "do_put", s_do_put⟩) 94 rfl
  g_do_put := gOk_ok X G (x := ("do_put", a_do_put)) (aget hg 70 rfl)
  d_do_drop := dget hd hc (d := ⟨a_do_drop, "do_drop", "do_drop", s_do_drop⟩) 95 rfl
  g_do_drop := gOk_ok X G (x := ("do_drop", a_do_drop)) (aget hg 71 rfl)
  d_do_told := dget hd hc (d := ⟨a_do_told, "do_told", "do_told", s_do_told⟩) 96 rfl
  g_do_told := gOk_ok X G (x := ("do_told", a_do_told)) (aget hg 72 rfl)
  d_do_truth := dget hd hc (d := ⟨a_do_truth, "do_truth", "do_truth", s_do_truth⟩) 97 rfl
  g_do_truth := gOk_ok X G (x := ("do_truth", a_do_truth)) (aget hg 73 rfl)
  d_do_falls := dget hd hc (d := ⟨a_do_falls, "do_falls", "do_falls", s_do_falls⟩) 98 rfl
  g_do_falls := gOk_ok X G (x := ("do_falls", a_do_falls)) (aget hg 74 rfl)
  d_do_equal := dget hd hc (d := ⟨a_do_equal, "do_equal", "do_equal", s_do_equal⟩) 99 rfl
  g_do_equal := gOk_ok X G (x := ("do_equal", a_do_equal)) (aget hg 75 rfl)
  d_do_within := dget hd hc (d := ⟨a_do_within, "do_within", "do_within", s_do_within⟩) 100 rfl
  g_do_within := gOk_ok X G (x := ("do_within", a_do_within)) (aget hg 76 rfl)
  d_do_hangs := dget hd hc (d := ⟨a_do_hangs, "do_hangs", "do_hangs", s_do_hangs⟩) 101 rfl
  g_do_hangs := gOk_ok X G (x := ("do_hangs", a_do_hangs)) (aget hg 77 rfl)
  d_table_of := dget hd hc (d := ⟨a_table_of, "table_of", "table_of", s_table_of⟩) 102 rfl
  g_table_of := gOk_ok X G (x := ("table_of", a_table_of)) (aget hg 78 rfl)
  d_do_least := dget hd hc (d := ⟨a_do_least, "do_least", "do_least", s_do_least⟩) 103 rfl
  g_do_least := gOk_ok X G (x := ("do_least", a_do_least)) (aget hg 79 rfl)
  d_do_cost := dget hd hc (d := ⟨a_do_cost, "do_cost", "do_cost", s_do_cost⟩) 104 rfl
  g_do_cost := gOk_ok X G (x := ("do_cost", a_do_cost)) (aget hg 80 rfl)
  d_do_labels := dget hd hc (d := ⟨a_do_labels, "do_labels", "do_labels", s_do_labels⟩) 105 rfl
  g_do_labels := gOk_ok X G (x := ("do_labels", a_do_labels)) (aget hg 81 rfl)
  d_do_accept := dget hd hc (d := ⟨a_do_accept, "do_accept", "do_accept", s_do_accept⟩) 106 rfl
  g_do_accept := gOk_ok X G (x := ("do_accept", a_do_accept)) (aget hg 82 rfl)
  d_do_deep := dget hd hc (d := ⟨a_do_deep, "do_deep", "do_deep", s_do_deep⟩) 107 rfl
  g_do_deep := gOk_ok X G (x := ("do_deep", a_do_deep)) (aget hg 83 rfl)
  d_do_card := dget hd hc (d := ⟨a_do_card, "do_card", "do_card", s_do_card⟩) 108 rfl
  g_do_card := gOk_ok X G (x := ("do_card", a_do_card)) (aget hg 84 rfl)
  d_least_cost := dget hd hc (d := ⟨a_least_cost, "least_cost", "least_cost", s_least_cost⟩) 109 rfl
  g_least_cost := gOk_ok X G (x := ("least_cost", a_least_cost)) (aget hg 85 rfl)
  d_do_together := dget hd hc (d := ⟨a_do_together, "do_together", "do_together", s_do_together⟩) 110 rfl
  g_do_together := gOk_ok X G (x := ("do_together", a_do_together)) (aget hg 86 rfl)
  d_greatest_divisor := dget hd hc (d := ⟨a_greatest_divisor, "greatest_divisor", "greatest_divisor", s_greatest_divisor⟩) 111 rfl
  g_greatest_divisor := gOk_ok X G (x := ("greatest_divisor", a_greatest_divisor)) (aget hg 87 rfl)
  d_do_mean := dget hd hc (d := ⟨a_do_mean, "do_mean", "do_mean", s_do_mean⟩) 112 rfl
  g_do_mean := gOk_ok X G (x := ("do_mean", a_do_mean)) (aget hg 88 rfl)
  d_do_thumb := dget hd hc (d := ⟨a_do_thumb, "do_thumb", "do_thumb", s_do_thumb⟩) 113 rfl
  g_do_thumb := gOk_ok X G (x := ("do_thumb", a_do_thumb)) (aget hg 89 rfl)
  d_do_cube := dget hd hc (d := ⟨a_do_cube, "do_cube", "do_cube", s_do_cube⟩) 114 rfl
  g_do_cube := gOk_ok X G (x := ("do_cube", a_do_cube)) (aget hg 90 rfl)
  d_number_count := dget hd hc (d := ⟨a_number_count, "number_count", "number_count", s_number_count⟩) 115 rfl
  g_number_count := gOk_ok X G (x := ("number_count", a_number_count)) (aget hg 91 rfl)
  d_row_count := dget hd hc (d := ⟨a_row_count, "row_count", "row_count", s_row_count⟩) 116 rfl
  g_row_count := gOk_ok X G (x := ("row_count", a_row_count)) (aget hg 92 rfl)
  d_answer_call := dget hd hc (d := ⟨a_answer_call, "answer_call", "answer_call", s_answer_call⟩) 117 rfl
  g_answer_call := gOk_ok X G (x := ("answer_call", a_answer_call)) (aget hg 93 rfl)
  d_answers := dget hd hc (d := ⟨a_answers, "answers", "answers", s_answers⟩) 118 rfl
  g_answers := gOk_ok X G (x := ("answers", a_answers)) (aget hg 94 rfl)
  d_read_rows := dget hd hc (d := ⟨a_read_rows, "read_rows", "read_rows", s_read_rows⟩) 119 rfl
  g_read_rows := gOk_ok X G (x := ("read_rows", a_read_rows)) (aget hg 95 rfl)
  g_Question := gOk_ok X G (x := ("Question", a_Question)) (aget hg 96 rfl)
  cl_Question := clOk_ok (aget hcl 0 rfl)
  mk_Question := mkOk_ok (x := (a_Question, a_Question_init)) (aget hmk 0 rfl)
  na_Question_name := naOk_ok (x := (a_Question, "name")) (aget hna 0 rfl)
  na_Question_spoken := naOk_ok (x := (a_Question, "spoken")) (aget hna 1 rfl)
  na_Question_truth := naOk_ok (x := (a_Question, "truth")) (aget hna 2 rfl)
  g_CardFile := gOk_ok X G (x := ("CardFile", a_CardFile)) (aget hg 97 rfl)
  cl_CardFile := clOk_ok (aget hcl 1 rfl)
  mk_CardFile := mkOk_ok (x := (a_CardFile, a_CardFile_init)) (aget hmk 1 rfl)
  na_CardFile_marks := naOk_ok (x := (a_CardFile, "marks")) (aget hna 3 rfl)
  na_CardFile_lines := naOk_ok (x := (a_CardFile, "lines")) (aget hna 4 rfl)
  na_CardFile_questions := naOk_ok (x := (a_CardFile, "questions")) (aget hna 5 rfl)
  g_Desk := gOk_ok X G (x := ("Desk", a_Desk)) (aget hg 98 rfl)
  cl_Desk := clOk_ok (aget hcl 2 rfl)
  mk_Desk := mkOk_ok (x := (a_Desk, a_Desk_init)) (aget hmk 2 rfl)
  na_Desk_card_file := naOk_ok (x := (a_Desk, "card_file")) (aget hna 6 rfl)
  g_Pack := gOk_ok X G (x := ("Pack", a_Pack)) (aget hg 99 rfl)
  cl_Pack := clOk_ok (aget hcl 3 rfl)
  mk_Pack := mkOk_ok (x := (a_Pack, a_Pack_init)) (aget hmk 3 rfl)
  na_Pack_notchings := naOk_ok (x := (a_Pack, "notchings")) (aget hna 7 rfl)
  na_Pack_needlings := naOk_ok (x := (a_Pack, "needlings")) (aget hna 8 rfl)
  g_Parting := gOk_ok X G (x := ("Parting", a_Parting)) (aget hg 100 rfl)
  cl_Parting := clOk_ok (aget hcl 4 rfl)
  mk_Parting := mkOk_ok (x := (a_Parting, a_Parting_init)) (aget hmk 4 rfl)
  na_Parting_piles := naOk_ok (x := (a_Parting, "piles")) (aget hna 9 rfl)
  na_Parting_needlings := naOk_ok (x := (a_Parting, "needlings")) (aget hna 10 rfl)
  na_Parting_deepest := naOk_ok (x := (a_Parting, "deepest")) (aget hna 11 rfl)
  g_Part := gOk_ok X G (x := ("Part", a_Part)) (aget hg 101 rfl)
  cl_Part := clOk_ok (aget hcl 5 rfl)
  mk_Part := mkOk_ok (x := (a_Part, a_Part_init)) (aget hmk 5 rfl)
  na_Part_truth := naOk_ok (x := (a_Part, "truth")) (aget hna 12 rfl)
  na_Part_spoken := naOk_ok (x := (a_Part, "spoken")) (aget hna 13 rfl)
  na_Part_joint := naOk_ok (x := (a_Part, "joint")) (aget hna 14 rfl)
  g_Cursor := gOk_ok X G (x := ("Cursor", a_Cursor)) (aget hg 102 rfl)
  cl_Cursor := clOk_ok (aget hcl 6 rfl)
  mk_Cursor := mkOk_ok (x := (a_Cursor, a_Cursor_init)) (aget hmk 6 rfl)
  na_Cursor_words := naOk_ok (x := (a_Cursor, "words")) (aget hna 15 rfl)
  na_Cursor_at := naOk_ok (x := (a_Cursor, "at")) (aget hna 16 rfl)
  g_Cube := gOk_ok X G (x := ("Cube", a_Cube)) (aget hg 103 rfl)
  cl_Cube := clOk_ok (aget hcl 7 rfl)
  mk_Cube := mkOk_ok (x := (a_Cube, a_Cube_init)) (aget hmk 7 rfl)
  na_Cube_halves := naOk_ok (x := (a_Cube, "halves")) (aget hna 17 rfl)
  na_Cube_cards := naOk_ok (x := (a_Cube, "cards")) (aget hna 18 rfl)
  na_Cube_pile := naOk_ok (x := (a_Cube, "pile")) (aget hna 19 rfl)
  na_Cube_cost := naOk_ok (x := (a_Cube, "cost")) (aget hna 20 rfl)
  na_Cube_mark := naOk_ok (x := (a_Cube, "mark")) (aget hna 21 rfl)
  na_Cube_depth := naOk_ok (x := (a_Cube, "depth")) (aget hna 22 rfl)
  f_enumerate := frOk_ok X G (x := "enumerate") (aget hfr 0 rfl)
  f_int := frOk_ok X G (x := "int") (aget hfr 1 rfl)
  f_len := frOk_ok X G (x := "len") (aget hfr 2 rfl)
  f_list := frOk_ok X G (x := "list") (aget hfr 3 rfl)
  f_max := frOk_ok X G (x := "max") (aget hfr 4 rfl)
  f_min := frOk_ok X G (x := "min") (aget hfr 5 rfl)
  f_ord := frOk_ok X G (x := "ord") (aget hfr 6 rfl)
  f_range := frOk_ok X G (x := "range") (aget hfr 7 rfl)
  f_str := frOk_ok X G (x := "str") (aget hfr 8 rfl)
  f_sum := frOk_ok X G (x := "sum") (aget hfr 9 rfl)
  f_zip := frOk_ok X G (x := "zip") (aget hfr 10 rfl)
  k_MOST_MARKS := conOk_ok X G (x := ("MOST_MARKS", .int 6)) (aget hco 0 rfl)
  k_MOST_NOTCHINGS := conOk_ok X G (x := ("MOST_NOTCHINGS", .int 64)) (aget hco 1 rfl)
  k_MOST_LINES := conOk_ok X G (x := ("MOST_LINES", .int 30)) (aget hco 2 rfl)
  k_MOST_QUESTIONS := conOk_ok X G (x := ("MOST_QUESTIONS", .int 6)) (aget hco 3 rfl)
  k_MOST_BYTES := conOk_ok X G (x := ("MOST_BYTES", .int 2000)) (aget hco 4 rfl)
  k_MOST_LABEL := conOk_ok X G (x := ("MOST_LABEL", .int 1000000000000)) (aget hco 5 rfl)
  k_MOST_CUBES := conOk_ok X G (x := ("MOST_CUBES", .int 729)) (aget hco 6 rfl)
  k_THREES := conOk_ok X G (x := ("THREES", .ref a_THREES)) (aget hco 7 rfl)
  k_MOST_PILE := conOk_ok X G (x := ("MOST_PILE", .int 63)) (aget hco 8 rfl)
  k_BLANK := conOk_ok X G (x := ("BLANK", .int 32)) (aget hco 9 rfl)
  k_LINE_FEED := conOk_ok X G (x := ("LINE_FEED", .int 10)) (aget hco 10 rfl)
  k_LETTERS := conOk_ok X G (x := ("LETTERS", .str "abcdefghijklmnopqrstuvwxyz")) (aget hco 11 rfl)
  k_DIGITS := conOk_ok X G (x := ("DIGITS", .str "0123456789")) (aget hco 12 rfl)
  k_LINE_END := conOk_ok X G (x := ("LINE_END", .str "\n")) (aget hco 13 rfl)
  k_TEXT_END := conOk_ok X G (x := ("TEXT_END", .str ".")) (aget hco 14 rfl)
  k_STRANGE := conOk_ok X G (x := ("STRANGE", .str "?")) (aget hco 15 rfl)
  k_MOST_CARDS := conOk_ok X G (x := ("MOST_CARDS", .int 1000000)) (aget hco 16 rfl)
  k_MOST_LETTERS := conOk_ok X G (x := ("MOST_LETTERS", .int 12)) (aget hco 17 rfl)
  k_MOST_OPENED := conOk_ok X G (x := ("MOST_OPENED", .int 8)) (aget hco 18 rfl)
  k_NO_MARKS := conOk_ok X G (x := ("NO_MARKS", .ref a_NO_MARKS)) (aget hco 19 rfl)
  k_DOERS := conOk_ok X G (x := ("DOERS", .ref a_DOERS)) (aget hco 20 rfl)
  k_COUNTS := conOk_ok X G (x := ("COUNTS", .ref a_COUNTS)) (aget hco 21 rfl)
  x_NotText := oxOk_ok X G (x := ("NotText", a_NotText, a_NotText_init)) (aget hox 0 rfl)
  x_NotInRange := oxOk_ok X G (x := ("NotInRange", a_NotInRange, a_NotInRange_init)) (aget hox 1 rfl)
  x_NotQuestions := oxOk_ok X G (x := ("NotQuestions", a_NotQuestions, a_NotQuestions_init)) (aget hox 2 rfl)
  x_NoQuestion := oxOk_ok X G (x := ("NoQuestion", a_NoQuestion, a_NoQuestion_init)) (aget hox 3 rfl)
  x_NoNotching := oxOk_ok X G (x := ("NoNotching", a_NoNotching, a_NoNotching_init)) (aget hox 4 rfl)
  x_NoCube := oxOk_ok X G (x := ("NoCube", a_NoCube, a_NoCube_init)) (aget hox 5 rfl)
  x_NotPlan := oxOk_ok X G (x := ("NotPlan", a_NotPlan, a_NotPlan_init)) (aget hox 6 rfl)
  x_NotLabels := oxOk_ok X G (x := ("NotLabels", a_NotLabels, a_NotLabels_init)) (aget hox 7 rfl)
  x_NoCards := oxOk_ok X G (x := ("NoCards", a_NoCards, a_NoCards_init)) (aget hox 8 rfl)
  x_TextFault := oxOk_ok X G (x := ("TextFault", a_TextFault, a_TextFault_init)) (aget hox 9 rfl)
  x_ref := refOk_ok X G (dget hd hc (d := ⟨a_Refusal_init, "__init__", "Refusal.__init__", s_Refusal_init⟩) REFD rfl) href
  x_tt := of_decide_eq_true htt
  t_THREES := tupOk_ok (x := (a_THREES, _)) ht1
  t_NO_MARKS := tupOk_ok (x := (a_NO_MARKS, _)) ht2
  w_DOERS := fun i f hf => dicOk_ok hdo i (.ref f) (by rw [List.getElem?_map, hf] <;> rfl)
  w_COUNTS := fun i x hx => by
    have hi : i < countsL.length := (List.getElem?_eq_some_iff.mp hx).1
    have hi2 : i < countsA.length := hi
    have ha : countsA[i]? = some countsA[i] := List.getElem?_eq_getElem hi2
    refine ⟨countsA[i], dicOk_ok hdc i _ (by rw [List.getElem?_map, ha] <;> rfl), ?_⟩
    have hz : (countsA.zip countsL)[i]? = some (countsA[i], x) := by rw [List.getElem?_zip_eq_some]; exact ⟨ha, hx⟩
    exact tupOk_ok (x := (countsA[i], _)) (aget (p := cntOk K) hcn i hz)
  }
end N
namespace N
open PySem PySem.W PySem.Calls PyProof.Rows
/-! ### the head: the top run in the kernel -/
abbrev RR : OpenSpec := PySem.Challenge.rw_notchedcards_s01_answers
abbrev qw : Program := view RR.prog [147]
def nm0 : List PySem.Str := ["MOST_MARKS", "MOST_NOTCHINGS", "MOST_LINES", "MOST_QUESTIONS", "Question", "CardFile", "Desk", "empty_file", "with_line", "with_question", "without_question", "count_notchings", "count_cards", "count_fallen", "cards_by_notching", "right_piles", "hung_on", "hangs_on", "Refusal", "NotText", "NotInRange", "NotQuestions", "NoQuestion", "NoNotching", "NoCube", "NotPlan", "NotLabels"]
def nm1 : List PySem.Str := ["NoCards", "TextFault", "MOST_BYTES", "MOST_LABEL", "check_text", "check_below", "find_question", "find_questions", "check_labels", "MOST_CUBES", "THREES", "count_cubes", "told_of", "lifted_half", "fallen_half", "halves_of", "notching_of", "MOST_PILE", "Pack", "Parting", "part_by_plan", "number_at", "lay_down", "lifted_pack", "fallen_pack", "plan_cost", "first_misplaced", "Part"]
def nm2 : List PySem.Str := ["all_part", "none_part", "mark_part", "bracketed", "not_part", "and_part", "or_part", "BLANK", "LINE_FEED", "LETTERS", "DIGITS", "LINE_END", "TEXT_END", "STRANGE", "sign_of", "spelled", "words_of", "Cursor", "MOST_CARDS", "MOST_LETTERS", "MOST_OPENED", "NO_MARKS", "read_file", "read_put", "is_name", "is_mark", "read_marks", "read_line"]
def nm3 : List PySem.Str := ["read_cards", "read_count", "read_notching", "read_question", "read_either", "read_both", "read_one", "read_opening", "Cube", "make_table", "answered_cube", "joined_cube", "first_least", "whole_cube", "least_marks", "thumb_marks", "thumb_mark", "cost_and_row", "first_too_great", "greatest_label", "one_text", "notched_marks", "do_clear", "do_file", "do_look", "do_text", "do_put", "do_drop"]
def nm4 : List PySem.Str := ["do_told", "do_truth", "do_falls", "do_equal", "do_within", "do_hangs", "table_of", "do_least", "do_cost", "do_labels", "do_accept", "do_deep", "do_card", "least_cost", "do_together", "greatest_divisor", "do_mean", "do_thumb", "do_cube", "DOERS", "COUNTS", "number_count", "row_count", "answer_call", "read_rows"]
def names : List PySem.Str := nm0 ++ (nm1 ++ (nm2 ++ (nm3 ++ (nm4))))
def ad0 : List Addr := [2, 3, 31, 52, 73, 84, 91, 98, 105, 112, 117, 122, 129, 134, 139, 146, 163, 183, 202, 221, 240, 259, 278, 297, 316, 335, 354, 363, 370, 377]
def ad1 : List Addr := [382, 389, 390, 397, 404, 411, 418, 423, 428, 445, 466, 477, 484, 491, 496, 501, 506, 513, 530, 541, 548, 553, 560, 565, 570, 575, 582, 587, 594, 646]
def ad2 : List Addr := [651, 658, 665, 672, 679, 686, 693, 700, 707, 714, 719, 726, 733, 740, 747, 764, 775, 782, 787, 794, 801, 806, 811, 816, 823, 830, 835, 842, 847, 854]
def ad3 : List Addr := [861, 868, 873, 880, 887, 894, 901, 908, 915, 922, 929, 936, 943, 950, 955, 962, 969, 976, 983, 988, 995, 1002, 1009, 1016, 1017, 1019, 1049, 1056, 1063, 1068]
def ad4 : List Addr := [1075, 30, 51, 72, 83, 90, 97, 104, 111, 116, 121, 128, 133, 138, 145, 162, 182, 201, 220, 239, 258, 277, 296, 315, 334, 353, 362, 369, 376, 381]
def ad5 : List Addr := [388, 396, 403, 410, 417, 422, 427, 444, 465, 476, 483, 490, 495, 500, 505, 512, 529, 540, 547, 552, 559, 564, 569, 574, 581, 586, 593, 645, 657, 664]
def ad6 : List Addr := [671, 678, 685, 692, 699, 706, 713, 718, 725, 732, 739, 746, 763, 774, 781, 786, 793, 800, 805, 810, 815, 822, 829, 834, 841, 846, 853, 860, 867, 872]
def ad7 : List Addr := [879, 886, 893, 900, 907, 914, 921, 928, 935, 942, 949, 954, 961, 968, 975, 982, 987, 994, 1001, 1008, 1015, 1020, 1021, 1022, 1023, 1024, 1025, 1026, 1027, 1028]
def ad8 : List Addr := [1029, 1030, 1031, 1032, 1033, 1034, 1035, 1036, 1038, 1039, 1040, 1041, 1042, 1048, 1055, 1062, 1067, 1074, 28, 49, 70, 160, 180, 199, 218, 237, 256, 275, 294, 313]
def ad9 : List Addr := [332, 351, 442, 463, 527, 608, 615, 622, 629, 636, 643, 761, 27, 48, 69, 159, 179, 198, 217, 236, 255, 274, 293, 312, 331, 350, 441, 462, 526, 607]
def ad10 : List Addr := [614, 621, 628, 635, 642, 760]
def addrs : List Addr := ad0 ++ (ad1 ++ (ad2 ++ (ad3 ++ (ad4 ++ (ad5 ++ (ad6 ++ (ad7 ++ (ad8 ++ (ad9 ++ (ad10))))))))))
noncomputable section
def KG (g : Addr → Option Obj) : Frag := He.frG g addrs
def endR (w : World) (os : OsState) : Option SharedT := HandSHeadRun.endF (HandSHeadRun.stepQ (HandSHeadRun.denQ HandSHeadRun.tabQ) RR.prog w) 16000 RR.prog w os
theorem map2 {α β γ : Type} {o : Option α} {f : α → β} {g : α → γ} {b : β} {c : γ} (h1 : o.map f = some b) (h2 : o.map g = some c) : o.map (fun s => (f s, g s)) = some (b, c) := by
  obtain ⟨a, rfl, h⟩ := Option.map_eq_some_iff.mp h1
  obtain ⟨a', e, h'⟩ := Option.map_eq_some_iff.mp h2
  cases e
  rw [← h, ← h'] <;> rfl
def fL (w : World) (s : SharedT) : Bool := HandSHeadRun.looksF RR.prog (boot_heap w.params) s.abs
def fS (s : SharedT) := HandSHeadRun.seenQ qw names (importedModules RR.prog.main.body) (fun s => xlAt qw [] s && recOk [] s) s.abs
def fA (s : SharedT) : Bool := partA (KG (HandSHeadRun.getT s))
def fB (s : SharedT) : Bool := partB (KG (HandSHeadRun.getT s))
def fC (s : SharedT) : Bool := partC (KG (HandSHeadRun.getT s))
def fD (s : SharedT) : Bool := partD (KG (HandSHeadRun.getT s))
def fF (s : SharedT) : List He.FnV := fnsA (KG (HandSHeadRun.getT s))
abbrev wb (w : World) (b : Bool) : World := w.withFollow "special-get-raises" b
end
/-- asked of the statement itself; here, where the memory is still free -/
theorem wellN : RR.wellSaid = true := by decide +kernel
end N
namespace N
open PySem PySem.W PySem.Calls PyProof.Rows
theorem rLfalse (w : World) (os : OsState) : (endR (wb w false) os).map (fun s => (fL (wb w false) s, fS s)) = some (true, openGood qw names) := by
  kernel_rfl
theorem rXfalse (w : World) (os : OsState) : (endR (wb w false) os).map (fun s => (fA s, fB s, fC s)) = some (true, true, true) := by
  kernel_rfl
theorem rYfalse (w : World) (os : OsState) : (endR (wb w false) os).map (fun s => (fD s, fF s)) = some (true, dfs.map DefA.val) := by
  kernel_rfl
theorem rLtrue (w : World) (os : OsState) : (endR (wb w true) os).map (fun s => (fL (wb w true) s, fS s)) = some (true, openGood qw names) := by
  kernel_rfl
theorem rXtrue (w : World) (os : OsState) : (endR (wb w true) os).map (fun s => (fA s, fB s, fC s)) = some (true, true, true) := by
  kernel_rfl
theorem rYtrue (w : World) (os : OsState) : (endR (wb w true) os).map (fun s => (fD s, fF s)) = some (true, dfs.map DefA.val) := by
  kernel_rfl
end N
namespace N
open PySem PySem.Spec PyProof.Rows L2
/-- all that is no list stands as it was -/
def Nl (H H' : Hp) : Prop := ∀ a o, (∀ xs, o ≠ .lst xs) → H a = some o → H' a = some o
theorem nlx {H H' : Hp} (e : Ex H H') : Nl H H' := fun a o _ h => e a o h
theorem nlt {H H1 H2 : Hp} (a : Nl H H1) (b : Nl H1 H2) : Nl H H2 := fun x o n h => b x o n (a x o n h)
theorem nlu {H : Hp} {D : Addr} {xs ys : List V} (h : H D = some (.lst xs)) : Nl H (upd H D (.lst ys)) := fun a o n e => by
  rw [upd_ne (fun z => by rw [z, h] at e; exact n xs (Option.some.inj e).symm)]
  exact e
theorem exm {H H' : Hp} {p : Addr} {o : HO} (e : Ex H H') (h : H p = none) : Ex H (upd H' p o) := Evl.Ex.mut e h
theorem frb {H H' : Hp} {p : Addr} (e : Ex H H') (h : H' p = none) : H p = none := Evl.fresh_back e h
theorem exl {K : PySem.W.Frag} {H H' : Hp} {a : Addr} {xs : List V} (e : Ex H H') (h : SqL K H a xs) : SqL K H' a xs := Evl.ex_l e h
theorem exu {K : PySem.W.Frag} {H H' : Hp} {a : Addr} {xs : List V} (e : Ex H H') (h : SqT K H a xs) : SqT K H' a xs := Evl.ex_t e h
theorem szl {n : Nat} (h : n ≤ 1000000) : n ≤ sizeLine := Nat.le_trans h (by decide)
theorem szs {n : Nat} (h : n < 1000000) : n < sizeLine := Nat.lt_of_lt_of_le h (by decide)
/-! ### rules within a comprehension: the written part by its name -/
section
variable {X : Cx} {K : PySem.W.Frag} {e : Expr} {ta : TE} {f : Str} {pos : Pos}
theorem pe_fldK (hK : X.K = K) (he : PE X e ta) (hb : attributeBase e f X.env (eval e X.env) = eval e X.env) : PE X (.Attribute e f pos) (tFld K ta f) := by
  subst hK
  exact pe_fld he hb
theorem ix_listK (hK : X.K = K) : IxR X (rIxL K) := by
  subst hK
  exact ix_list
theorem ix_tupK (hK : X.K = K) : IxR X (rIxT K) := by
  subst hK
  exact ix_tup
theorem call_lenK (hK : X.K = K) : CallR X (.builtin "len") (fun xs H Q => ∃ x n, xs = [x] ∧ LenV K x H n ∧ Q (.int n) H) := by
  subst hK
  exact call_len
end
theorem range_map {α β : Type} (l : List α) (f : α → β) (d : β) : (List.range l.length).map (fun i => l[i]?.elim d f) = l.map f := by
  apply List.ext_getElem?
  intro i
  rw [List.getElem?_map, List.getElem?_map]
  by_cases hi : i < l.length
  · rw [List.getElem?_range hi, List.getElem?_eq_getElem hi, Option.map_some, Option.map_some, List.getElem?_eq_getElem hi] <;> rfl
  · rw [List.getElem?_eq_none (by simpa using hi), List.getElem?_eq_none (by simpa using hi)] <;> rfl
theorem range_fm {α β : Type} (f : α → Option β) : ∀ l : List α, (List.range l.length).filterMap (fun i => l[i]?.bind f) = l.filterMap f
  | [] => rfl
  | x :: r => by
    have ih := range_fm f r
    rw [List.length_cons, List.range_succ_eq_map, List.filterMap_cons, List.filterMap_map, List.filterMap_cons]
    have e : ((fun i => (x :: r)[i]?.bind f) ∘ Nat.succ) = fun i => r[i]?.bind f := by
      funext i
      simp
    rw [e, ih]
    simp
/-- targets that are pairs, triples of a comprehension's own names -/
theorem pg_t2 {X : Cx} {x1 x2 : Str} {i1 i2 k : Nat} {p1 p2 pos : Pos} (hc : X.calm = true) (hN : X.N.Nodup) (h1 : X.N[i1]? = some x1) (l1 : X.env.scope.names.lookup x1 = some .local) (h2 : X.N[i2]? = some x2) (l2 : X.env.scope.names.lookup x2 = some .local) :
    PG X (.Tuple [.Name x1 p1, .Name x2 p2] k pos) (gTup X.K 2 (gCons (gName i1) (gCons (gName i2) gNil))) :=
  pg_tup hc (pgs_cons (pg_name hN h1 (.inl l1) (.inr l1)) (pgs_cons (pg_name hN h2 (.inl l2) (.inr l2)) pgs_nil))
theorem pg_t3 {X : Cx} {x1 x2 x3 : Str} {i1 i2 i3 k : Nat} {p1 p2 p3 pos : Pos} (hc : X.calm = true) (hN : X.N.Nodup) (h1 : X.N[i1]? = some x1) (l1 : X.env.scope.names.lookup x1 = some .local) (h2 : X.N[i2]? = some x2) (l2 : X.env.scope.names.lookup x2 = some .local)
    (h3 : X.N[i3]? = some x3) (l3 : X.env.scope.names.lookup x3 = some .local) :
    PG X (.Tuple [.Name x1 p1, .Name x2 p2, .Name x3 p3] k pos) (gTup X.K 3 (gCons (gName i1) (gCons (gName i2) (gCons (gName i3) gNil)))) :=
  pg_tup hc (pgs_cons (pg_name hN h1 (.inl l1) (.inr l1)) (pgs_cons (pg_name hN h2 (.inl l2) (.inr l2)) (pgs_cons (pg_name hN h3 (.inl l3) (.inr l3)) pgs_nil)))
section
variable {J : It} {n : Nat} {G : Hp → Prop} {Y : Nat → Hp → V → Hp → Prop} {g : TG} {tt : TT} {te : TE} {vs : List Nat} {σ : L2.St} {H1 : Hp} {D : Addr} {Q : Hp → Prop}
/-- a comprehension whose values do not hang on the heap -/
theorem lc_val (w : Walk J n G Y) (f : Nat → Option V) (hn : n < 1000000) (hD : H1 D = none) (hG : ∀ H, Ex H1 H → G H)
    (hs : ∀ i x H H' (C : V → Hp → Prop) (C0 : Hp → Prop), i < n → Ex H1 H → Y i H x H' → (∀ y H4, Ex H H4 → f i = some y → C y H4) → (∀ H3, Ex H H3 → f i = none → C0 H3) →
      g x (wipe σ vs) H' fun σ2 H2 => wipe σ2 vs = wipe σ vs ∧ tt σ2 H2 fun b H3 => if b = true then te σ2 H3 C else C0 H3)
    (hd : ∀ H2, Ex H1 H2 → H2 D = some (.lst ((List.range n).filterMap f)) → Q H2) :
    ∃ W : Nat → Nat → Hp → Prop, (∃ m, W 0 m (upd H1 D (.lst []))) ∧ ∀ i m H, W i m H →
      (J.stop i H ∧ Q H) ∨ (J.go i H ∧ ∃ Nx : Hp → Prop, (∀ H', Nx H' → ∃ m', m' < m ∧ W (i + 1) m' H') ∧ ∀ x H', J.yld i H x H' → g x (wipe σ vs) H' fun σ2 H2 => wipe σ2 vs = wipe σ vs ∧ tt σ2 H2 fun b H3 =>
        if b = true then te σ2 H3 fun y H4 => ∃ acc, H4 D = some (.lst acc) ∧ acc.length < sizeLine ∧ Nx (upd H4 D (.lst (acc ++ [y]))) else Nx H3) := by
  have len : ∀ i, ((List.range i).filterMap f).length ≤ i := fun i => Nat.le_trans (List.length_filterMap_le _ _) (by rw [List.length_range]; exact Nat.le_refl _)
  have nxt : ∀ i, (List.range (i + 1)).filterMap f = (List.range i).filterMap f ++ (f i).toList := fun i => by
    rw [List.range_succ, List.filterMap_append]
    cases h : f i <;> simp [h]
  refine lc_it w (fun i H => Ex H1 H ∧ H D = some (.lst ((List.range i).filterMap f))) ⟨exn hD, upd_same⟩ (fun i H _ p => hG H p.1) (fun i x H H' hi p y => ?_) (fun H p => hd H p.1 p.2)
  refine hs i x H H' _ _ hi p.1 y (fun v H4 e4 hv => ⟨_, e4 _ _ p.2, szs (Nat.lt_of_le_of_lt (len i) (by omega)), exm (ext p.1 e4) hD, ?_⟩) (fun H3 e3 h0 => ⟨ext p.1 e3, ?_⟩)
  · rw [nxt, hv]
    exact upd_same
  · rw [nxt, h0]
    show H3 D = some (.lst (_ ++ []))
    rw [List.append_nil]
    exact e3 _ _ p.2
/-- every turn gives -/
theorem lc_map (w : Walk J n G Y) (f : Nat → V) (hn : n < 1000000) (hD : H1 D = none) (hG : ∀ H, Ex H1 H → G H)
    (hs : ∀ i x H H' (C : V → Hp → Prop), i < n → Ex H1 H → Y i H x H' → (∀ H4, Ex H H4 → C (f i) H4) → g x (wipe σ vs) H' fun σ2 H2 => wipe σ2 vs = wipe σ vs ∧ te σ2 H2 C)
    (hd : ∀ H2, Ex H1 H2 → H2 D = some (.lst ((List.range n).map f)) → Q H2) :
    ∃ W : Nat → Nat → Hp → Prop, (∃ m, W 0 m (upd H1 D (.lst []))) ∧ ∀ i m H, W i m H →
      (J.stop i H ∧ Q H) ∨ (J.go i H ∧ ∃ Nx : Hp → Prop, (∀ H', Nx H' → ∃ m', m' < m ∧ W (i + 1) m' H') ∧ ∀ x H', J.yld i H x H' → g x (wipe σ vs) H' fun σ2 H2 => wipe σ2 vs = wipe σ vs ∧ tYes σ2 H2 fun b H3 =>
        if b = true then te σ2 H3 fun y H4 => ∃ acc, H4 D = some (.lst acc) ∧ acc.length < sizeLine ∧ Nx (upd H4 D (.lst (acc ++ [y]))) else Nx H3) := by
  have nxt : ∀ i, (List.range (i + 1)).map f = (List.range i).map f ++ [f i] := fun i => by rw [List.range_succ, List.map_append] <;> rfl
  refine lc_it w (fun i H => Ex H1 H ∧ H D = some (.lst ((List.range i).map f))) ⟨exn hD, upd_same⟩ (fun i H _ p => hG H p.1) (fun i x H H' hi p y => ?_) (fun H p => hd H p.1 p.2)
  refine hs i x H H' _ hi p.1 y (fun H4 e4 => ⟨_, e4 _ _ p.2, szs (by rw [List.length_map, List.length_range]; omega), exm (ext p.1 e4) hD, ?_⟩)
  rw [nxt]
  exact upd_same
/-- every turn gives what stands in a relation that only looks at what is no list -/
theorem lc_rel (w : Walk J n G Y) (R : Nat → V → Hp → Prop) (hR : ∀ i v H H', Nl H H' → R i v H → R i v H') (hn : n < 1000000) (hD : H1 D = none) (hG : ∀ H, Ex H1 H → G H)
    (hs : ∀ i x H H' (C : V → Hp → Prop), i < n → Ex H1 H → Y i H x H' → (∀ y H4, Ex H H4 → R i y H4 → C y H4) → g x (wipe σ vs) H' fun σ2 H2 => wipe σ2 vs = wipe σ vs ∧ te σ2 H2 C)
    (hd : ∀ H2 ys, Ex H1 H2 → H2 D = some (.lst ys) → ys.length = n → (∀ (i : Nat) y, ys[i]? = some y → R i y H2) → Q H2) :
    ∃ W : Nat → Nat → Hp → Prop, (∃ m, W 0 m (upd H1 D (.lst []))) ∧ ∀ i m H, W i m H →
      (J.stop i H ∧ Q H) ∨ (J.go i H ∧ ∃ Nx : Hp → Prop, (∀ H', Nx H' → ∃ m', m' < m ∧ W (i + 1) m' H') ∧ ∀ x H', J.yld i H x H' → g x (wipe σ vs) H' fun σ2 H2 => wipe σ2 vs = wipe σ vs ∧ tYes σ2 H2 fun b H3 =>
        if b = true then te σ2 H3 fun y H4 => ∃ acc, H4 D = some (.lst acc) ∧ acc.length < sizeLine ∧ Nx (upd H4 D (.lst (acc ++ [y]))) else Nx H3) := by
  refine lc_it w (fun i H => Ex H1 H ∧ ∃ ys : List V, H D = some (.lst ys) ∧ ys.length = i ∧ ∀ (j : Nat) y, ys[j]? = some y → R j y H) ⟨exn hD, [], upd_same, rfl, fun j y h => by simp at h⟩ (fun i H _ p => hG H p.1) (fun i x H H' hi p y => ?_) (fun H p => ?_)
  · obtain ⟨p1, ys, p2, p3, p4⟩ := p
    refine hs i x H H' _ hi p1 y (fun v H4 e4 hv => ⟨ys, e4 _ _ p2, szs (by omega), exm (ext p1 e4) hD, ys ++ [v], upd_same, by simp [p3], fun j u h => ?_⟩)
    have nl : Nl H4 (upd H4 D (.lst (ys ++ [v]))) := nlu (e4 _ _ p2)
    by_cases hj : j < ys.length
    · rw [List.getElem?_append_left hj] at h
      exact hR j u _ _ (nlt (nlx e4) nl) (p4 j u h)
    · rw [List.getElem?_append_right (by omega)] at h
      have hj2 : j = i := by
        obtain ⟨h1, _⟩ := List.getElem?_eq_some_iff.mp h
        simp at h1; omega
      subst hj2
      rw [p3, Nat.sub_self] at h
      have e : v = u := Option.some.inj h
      subst e
      exact hR _ _ _ _ nl hv
  · obtain ⟨p1, ys, p2, p3, p4⟩ := p
    exact hd H ys p1 p2 p3 p4
end
end N
namespace N
open PySem PySem.Spec PyProof.Rows L2
section
variable {P : Program} {w : World} {K : PySem.W.Frag} {mg : Str → Option Value} {base : Heap}
theorem threes_at {m : Nat} (h : m < 7) : atI [V.int 1, .int 3, .int 9, .int 27, .int 81, .int 243, .int 729] (m : Int) = some (.int ((3 ^ m : Nat) : Int)) := by
  match m, h with
  | 0, _ => rfl
  | 1, _ => rfl
  | 2, _ => rfl
  | 3, _ => rfl
  | 4, _ => rfl
  | 5, _ => rfl
  | 6, _ => rfl
theorem three_lt {m : Nat} (h : m < 7) : 0 < 3 ^ m ∧ 3 ^ m < 1000 := by
  match m, h with
  | 0, _ => decide
  | 1, _ => decide
  | 2, _ => decide
  | 3, _ => decide
  | 4, _ => decide
  | 5, _ => decide
  | 6, _ => decide
theorem sc_told_of : FnScope ["cube", "mark"] ["cube", "mark"] (defScope s_told_of) := C8.fnScope_by (by decide +kernel)
def sp_told_of : Sp := fun vs H Q _ => ∃ (c m : Nat), vs = [.int c, .int m] ∧ m < 7 ∧ Q (.int (Vbenae.digit c m : Nat)) H
theorem c_told_of (T : Tx K mg) : Cal P w K mg base CX0 1 "told_of" a_told_of sp_told_of := by
  obtain ⟨fd, F⟩ := T.d_told_of
  refine ⟨⟨fd, ["cube", "mark"], F.ok sc_told_of (fun vs H Q E h => by obtain ⟨c, m, rfl, _⟩ := h; rfl) (fun cdv A outer s H vs Q E hr h => ⟨_, pss_one (ps_ret (pe_op op_mod (pe_op op_fdiv (pv 0) (pe_ix ix_tup (C8.pe_gc rfl T.k_THREES) (pv 1) (fun _ _ => rfl))) pe_int)), ?_⟩), F.binds fun _ _ _ _ _ _ us hl => match us, hl with | [_, _], _ => rfl⟩, T.g_told_of, F.kp⟩
  obtain ⟨c, m, rfl, hm, q⟩ := h
  have h3 := three_lt hm
  refine ⟨_, rfl, _, rfl, _, _, _, _, rfl, rfl, T.t_THREES _, threes_at hm, _, _, rfl, rfl, ⟨by omega, by omega⟩, _, _, rfl, rfl, pos3, ?_⟩
  exact q
theorem sc_lifted_half : FnScope ["cube", "mark"] ["cube", "mark"] (defScope s_lifted_half) := C8.fnScope_by (by decide +kernel)
def sp_lifted_half : Sp := fun vs H Q _ => ∃ (c m : Nat), vs = [.int c, .int m] ∧ m < 7 ∧ 2 * 3 ^ m ≤ c ∧ Q (.int (Vbenae.lower c m : Nat)) H
theorem c_lifted_half (T : Tx K mg) : Cal P w K mg base CX0 1 "lifted_half" a_lifted_half sp_lifted_half := by
  obtain ⟨fd, F⟩ := T.d_lifted_half
  refine ⟨⟨fd, ["cube", "mark"], F.ok sc_lifted_half (fun vs H Q E h => by obtain ⟨c, m, rfl, _⟩ := h; rfl) (fun cdv A outer s H vs Q E hr h => ⟨_, pss_one (ps_ret (pe_op op_sub (pv 0) (pe_op op_mul pe_int (pe_ix ix_tup (C8.pe_gc rfl T.k_THREES) (pv 1) (fun _ _ => rfl))))), ?_⟩), F.binds fun _ _ _ _ _ _ us hl => match us, hl with | [_, _], _ => rfl⟩, T.g_lifted_half, F.kp⟩
  obtain ⟨c, m, rfl, hm, hle, q⟩ := h
  have h3 := three_lt hm
  refine ⟨_, rfl, _, rfl, _, _, _, _, rfl, rfl, T.t_THREES _, threes_at hm, _, _, rfl, rfl, .inl ⟨by decide, by decide⟩, _, _, rfl, rfl, ?_⟩
  have e : (c : Int) - 2 * ((3 ^ m : Nat) : Int) = ((Vbenae.lower c m : Nat) : Int) := by unfold Vbenae.lower; omega
  exact qi e q
theorem sc_fallen_half : FnScope ["cube", "mark"] ["cube", "mark"] (defScope s_fallen_half) := C8.fnScope_by (by decide +kernel)
def sp_fallen_half : Sp := fun vs H Q _ => ∃ (c m : Nat), vs = [.int c, .int m] ∧ m < 7 ∧ 3 ^ m ≤ c ∧ Q (.int (Vbenae.upper c m : Nat)) H
theorem c_fallen_half (T : Tx K mg) : Cal P w K mg base CX0 1 "fallen_half" a_fallen_half sp_fallen_half := by
  obtain ⟨fd, F⟩ := T.d_fallen_half
  refine ⟨⟨fd, ["cube", "mark"], F.ok sc_fallen_half (fun vs H Q E h => by obtain ⟨c, m, rfl, _⟩ := h; rfl) (fun cdv A outer s H vs Q E hr h => ⟨_, pss_one (ps_ret (pe_op op_sub (pv 0) (pe_ix ix_tup (C8.pe_gc rfl T.k_THREES) (pv 1) (fun _ _ => rfl)))), ?_⟩), F.binds fun _ _ _ _ _ _ us hl => match us, hl with | [_, _], _ => rfl⟩, T.g_fallen_half, F.kp⟩
  obtain ⟨c, m, rfl, hm, hle, q⟩ := h
  refine ⟨_, rfl, _, rfl, _, _, _, _, rfl, rfl, T.t_THREES _, threes_at hm, _, _, rfl, rfl, ?_⟩
  have e : (c : Int) - ((3 ^ m : Nat) : Int) = ((Vbenae.upper c m : Nat) : Int) := by unfold Vbenae.upper; omega
  exact qi e q
end
end N
namespace N
open PySem PySem.Spec PyProof.Rows L2
section
variable {P : Program} {w : World} {K : PySem.W.Frag} {mg : Str → Option Value} {base : Heap}
theorem digit_two {c m : Nat} (h : Vbenae.digit c m = 2) : 2 * 3 ^ m ≤ c := by
  unfold Vbenae.digit at h
  have h1 : 2 ≤ c / 3 ^ m := by
    have := Nat.mod_le (c / 3 ^ m) 3
    omega
  exact (Nat.le_div_iff_mul_le (Nat.pow_pos (by decide))).mp h1
theorem fm_filter {α β : Type} (p : α → Bool) (f : α → β) (l : List α) : l.filterMap (fun x => if p x = true then some (f x) else none) = (l.filter p).map f := by
  induction l with
  | nil => rfl
  | cons a r ih =>
    cases h : p a <;> simp [h, ih]
/-- the halves of a cube, told with their marks -/
def Hal (c : Nat) (m : Nat) (v : V) (H : Hp) : Prop := ∃ t : Addr, v = .ref t ∧ H t = some (.tup [.int m, .int (Vbenae.lower c m : Nat), .int (Vbenae.upper c m : Nat)])
theorem hal_nl {c m : Nat} {v : V} {H H' : Hp} (e : Nl H H') (h : Hal c m v H) : Hal c m v H' := by
  obtain ⟨t, rfl, h⟩ := h
  exact ⟨t, rfl, e _ _ (fun xs z => by cases z) h⟩
def HalvesAt (H : Hp) (a : Addr) (k c : Nat) : Prop := ∃ ys : List V, H a = some (.lst ys) ∧ ys.length = (Vbenae.open_ k c).length ∧ ∀ (i : Nat) m y, (Vbenae.open_ k c)[i]? = some m → ys[i]? = some y → Hal c m y H
theorem sc_halves_of : FnScope ["cube", "mark_count", "opened", "mark"] ["cube", "mark_count"] (defScope s_halves_of) := C8.fnScope_by (by decide +kernel)
def sp_halves_of : Sp := fun vs H Q _ => ∃ (c k : Nat), vs = [.int c, .int k] ∧ k ≤ 6 ∧ ∀ H' p, Ex H H' → H p = none → HalvesAt H' p k c → Q (.ref p) H'
theorem c_halves_of (T : Tx K mg) : Cal P w K mg base CX0 2 "halves_of" a_halves_of sp_halves_of := by
  obtain ⟨fd, F⟩ := T.d_halves_of
  refine ⟨⟨fd, ["cube", "mark_count"], F.ok sc_halves_of (fun vs H Q E h => by obtain ⟨c, m, rfl, _⟩ := h; rfl) (fun cdv A outer s H vs Q E hr h => ⟨_, pss_cons (ps_setLc (i := 2) (own := [("mark", 3)]) (g := gName 3) rfl sc_halves_of.nd rfl rfl (sw_true rfl rfl rfl (by decide +kernel)) (pi_range1 rfl T.f_range (pa_cons (pv 1) pa_nil)) (blkOk_by (own := [("mark", 3)]) (N := ["cube", "mark_count", "opened", "mark"]) (sc := defScope s_halves_of) (by decide +kernel)) (fun _ _ _ _ _ => by exact (pg_name (i := 3) sc_halves_of.nd rfl (Or.inl rfl))) (fun _ _ _ _ _ => by exact (pts_one (pt_cmpR op_eq (pe_f (c_told_of T) hr (by decide) rfl (pa_cons (pv 0) (pa_cons (pv 3) pa_nil))) pe_int (nomark _)))) (fun _ _ _ _ _ => by exact (pv 3)))
    (pss_one (ps_ret (by exact (pe_lc (own := [("mark", 3)]) (g := gName 3) rfl sc_halves_of.nd (pi_list (pv 2)) (blkOk_by (own := [("mark", 3)]) (N := ["cube", "mark_count", "opened", "mark"]) (sc := defScope s_halves_of) (by decide +kernel)) (fun _ _ _ _ _ => by exact (pg_name (i := 3) sc_halves_of.nd rfl (Or.inl rfl))) (fun _ _ _ _ _ => by exact pts_nil) (fun _ _ _ _ _ => by exact (pe_tup (pa_cons (pv 3) (pa_cons (pe_f (c_lifted_half T) hr (by decide) rfl (pa_cons (pv 0) (pa_cons (pv 3) pa_nil))) (pa_cons (pe_f (c_fallen_half T) hr (by decide) rfl (pa_cons (pv 0) (pa_cons (pv 3) pa_nil))) pa_nil))))))))), ?_⟩), F.binds fun _ _ _ _ _ _ us hl => match us, hl with | [_, _], _ => rfl⟩, T.g_halves_of, F.kp⟩
  obtain ⟨c, k, rfl, hk, q⟩ := h
  refine ⟨_, rfl, (k : Int), rfl, by omega, by omega, fun D hD => ?_⟩
  refine lc_val (walk_range (lo := 0) (n := k)) (fun i => if decide (Vbenae.digit c i = 2) = true then some (.int (i : Nat)) else none) (by omega) hD (fun _ _ => trivial) (fun i x H2 H' C C0 hi e2 y hC hC0 => ?_) (fun H2 e2 h2 => ?_)
  · obtain ⟨rfl, rfl⟩ := y
    refine ⟨rfl, _, rfl, _, rfl, c, i, ?_, by omega, rfl, _, rfl, ?_⟩
    · show [V.int c, V.int (0 + (i : Int))] = [V.int c, V.int i]
      rw [Int.zero_add]
    · refine ite2 (fun z => ?_) (fun z => ?_)
      · have e : Vbenae.digit c i = 2 := by
          have := V.int.inj (of_decide_eq_true z)
          omega
        refine ⟨_, rfl, hC _ _ exr ?_⟩
        show (if decide (Vbenae.digit c i = 2) = true then some (V.int (i : Nat)) else none) = some (V.int (0 + (i : Int)))
        rw [decide_eq_true e, if_pos rfl, Int.zero_add]
      · have e : ¬ Vbenae.digit c i = 2 := fun e => z (decide_eq_true (by rw [e]; rfl))
        refine hC0 _ exr ?_
        show (if decide (Vbenae.digit c i = 2) = true then some (V.int (i : Nat)) else none) = none
        rw [decide_eq_false e, if_neg Bool.false_ne_true]
  · rw [fm_filter] at h2
    have h2' : H2 D = some (.lst ((Vbenae.open_ k c).map fun i => V.int (i : Nat))) := h2
    refine ⟨_, rfl, D, rfl, ⟨_, SqL.of h2'⟩, fun D2 hD2 => ?_⟩
    have oin : ∀ (i : Nat) m, (Vbenae.open_ k c)[i]? = some m → Vbenae.digit c m = 2 ∧ m < k := fun i m h => by
      have z := List.mem_of_getElem? h
      unfold Vbenae.open_ at z
      rw [List.mem_filter, List.mem_range] at z
      exact ⟨by simpa using z.2, z.1⟩
    have ol : (Vbenae.open_ k c).length ≤ k := by
      unfold Vbenae.open_
      exact Nat.le_trans (List.length_filter_le _ _) (by rw [List.length_range]; exact Nat.le_refl _)
    refine lc_rel (walk_list (K := K) (a := D) (xs := (Vbenae.open_ k c).map fun i => V.int (i : Nat))) (fun i v H => ∀ m, (Vbenae.open_ k c)[i]? = some m → Hal c m v H) (fun i v Ha Hb nl h m hm => hal_nl nl (h m hm)) (by rw [List.length_map]; omega) hD2
      (fun H3 e3 => SqL.of (e3 _ _ h2')) (fun i x H3 H' C hi e3 y hC => ?_) (fun H3 ys e3 h3 hl hr => ?_)
    · obtain ⟨rfl, hx⟩ := y
      rw [List.getElem?_map] at hx
      obtain ⟨m, hm, rfl⟩ := Option.map_eq_some_iff.mp hx
      have om := oin i m hm
      have d2 := digit_two om.1
      refine ⟨rfl, _, rfl, _, rfl, _, rfl, c, m, rfl, by omega, d2, _, rfl, _, rfl, c, m, rfl, by omega, by omega, by show 3 ≤ sizeLine; decide, fun t ht => ?_⟩
      refine hC _ _ (exn ht) fun m' hm' => ?_
      rw [hm] at hm'
      cases hm'
      exact ⟨t, rfl, upd_same⟩
    · rw [List.length_map] at hl
      refine q _ _ (ext e2 e3) (frb e2 hD2) ⟨ys, h3, hl, fun i m y hm hy => hr i y hy m hm⟩
end
end N
namespace N
open PySem PySem.Spec PyProof.Rows L2
open Vbenae (File Line Ask)
/-- a text -/
abbrev tx (l : List Nat) : V := .str (SX.S l)
/-! ### two lists, one by one -/
def Al {α β : Type} (R : α → β → Prop) : List α → List β → Prop
  | [], [] => True
  | x :: xs, y :: ys => R x y ∧ Al R xs ys
  | _, _ => False
section
variable {α β : Type} {R R' : α → β → Prop}
theorem Al.len : ∀ {xs : List α} {ys : List β}, Al R xs ys → xs.length = ys.length
  | [], [], _ => rfl
  | _ :: _, _ :: _, h => congrArg (· + 1) (Al.len h.2)
  | [], _ :: _, h => h.elim
  | _ :: _, [], h => h.elim
theorem Al.imp (f : ∀ x y, R x y → R' x y) : ∀ {xs : List α} {ys : List β}, Al R xs ys → Al R' xs ys
  | [], [], _ => trivial
  | _ :: _, _ :: _, h => ⟨f _ _ h.1, Al.imp f h.2⟩
  | [], _ :: _, h => h.elim
  | _ :: _, [], h => h.elim
theorem Al.get : ∀ {xs : List α} {ys : List β} {i : Nat} {x : α}, Al R xs ys → xs[i]? = some x → ∃ y, ys[i]? = some y ∧ R x y
  | [], [], _, _, _, h => by simp at h
  | _ :: _, _ :: _, 0, _, h, e => by
    simp at e; subst e
    exact ⟨_, rfl, h.1⟩
  | _ :: _, _ :: _, i + 1, _, h, e => Al.get (i := i) h.2 (by simpa using e)
  | [], _ :: _, _, _, h, _ => h.elim
  | _ :: _, [], _, _, h, _ => h.elim
theorem Al.get' : ∀ {xs : List α} {ys : List β} {i : Nat} {y : β}, Al R xs ys → ys[i]? = some y → ∃ x, xs[i]? = some x ∧ R x y
  | [], [], _, _, _, h => by simp at h
  | _ :: _, _ :: _, 0, _, h, e => by
    simp at e; subst e
    exact ⟨_, rfl, h.1⟩
  | _ :: _, _ :: _, i + 1, _, h, e => Al.get' (i := i) h.2 (by simpa using e)
  | [], _ :: _, _, _, h, _ => h.elim
  | _ :: _, [], _, _, h, _ => h.elim
theorem Al.app : ∀ {xs xs' : List α} {ys ys' : List β}, Al R xs ys → Al R xs' ys' → Al R (xs ++ xs') (ys ++ ys')
  | [], _, [], _, _, h => h
  | _ :: _, _, _ :: _, _, h, h' => ⟨h.1, Al.app h.2 h'⟩
  | [], _, _ :: _, _, h, _ => h.elim
  | _ :: _, _, [], _, h, _ => h.elim
theorem Al.snoc {xs : List α} {ys : List β} {x : α} {y : β} (h : Al R xs ys) (r : R x y) : Al R (xs ++ [x]) (ys ++ [y]) := Al.app h ⟨r, trivial⟩
theorem Al.take : ∀ {xs : List α} {ys : List β} (n : Nat), Al R xs ys → Al R (xs.take n) (ys.take n)
  | _, _, 0, _ => trivial
  | [], [], _ + 1, _ => trivial
  | _ :: _, _ :: _, n + 1, h => ⟨h.1, Al.take n h.2⟩
  | [], _ :: _, _ + 1, h => h.elim
  | _ :: _, [], _ + 1, h => h.elim
theorem Al.drop : ∀ {xs : List α} {ys : List β} (n : Nat), Al R xs ys → Al R (xs.drop n) (ys.drop n)
  | _, _, 0, h => h
  | [], [], _ + 1, _ => trivial
  | _ :: _, _ :: _, n + 1, h => Al.drop n h.2
  | [], _ :: _, _ + 1, h => h.elim
  | _ :: _, [], _ + 1, h => h.elim
theorem Al.erase {xs : List α} {ys : List β} (n : Nat) (h : Al R xs ys) : Al R (xs.eraseIdx n) (ys.take n ++ ys.drop (n + 1)) := by
  rw [List.eraseIdx_eq_take_drop_succ]
  exact (h.take n).app (h.drop (n + 1))
theorem Al.of : ∀ {xs : List α} {ys : List β}, xs.length = ys.length → (∀ (i : Nat) x y, xs[i]? = some x → ys[i]? = some y → R x y) → Al R xs ys
  | [], [], _, _ => trivial
  | _ :: _, _ :: _, hl, h => ⟨h 0 _ _ rfl rfl, Al.of (Nat.succ.inj hl) fun i x y e1 e2 => h (i + 1) x y e1 e2⟩
  | [], _ :: _, hl, _ => by simp at hl
  | _ :: _, [], hl, _ => by simp at hl
end
/-! ### frames: instances of one class may change -/
def Fr (C : Addr) (H H' : Hp) : Prop := ∀ a o, (∀ dx fs, o ≠ .ins C dx fs) → H a = some o → H' a = some o
theorem frx {C : Addr} {H H' : Hp} (e : Ex H H') : Fr C H H' := fun a o _ h => e a o h
theorem frr {C : Addr} {H : Hp} : Fr C H H := fun _ _ _ h => h
theorem frt {C : Addr} {H H1 H2 : Hp} (a : Fr C H H1) (b : Fr C H1 H2) : Fr C H H2 := fun x o n h => b x o n (a x o n h)
theorem fru {C : Addr} {H : Hp} {x dx : Addr} {fs fs' : List (Str × V)} (h : H x = some (.ins C dx fs)) : Fr C H (upd H x (.ins C dx fs')) := fun a o n e => by
  rw [upd_ne (fun z => by rw [z, h] at e; exact n dx fs (Option.some.inj e).symm)]
  exact e
theorem Fr.free {C : Addr} {H H' : Hp} (e : Fr C H H') {l : Addr} (h : H' l = none) : H l = none ∨ ∃ dx fs, H l = some (.ins C dx fs) := by
  cases q : H l with
  | none => exact .inl rfl
  | some o =>
    by_cases z : ∃ dx fs, o = .ins C dx fs
    · obtain ⟨dx, fs, rfl⟩ := z
      exact .inr ⟨dx, fs, rfl⟩
    · have := e l o (fun dx fs y => z ⟨dx, fs, y⟩) q
      rw [this] at h
      cases h
/-! ### a file -/
def LineAt (H : Hp) (x : Line) (v : V) : Prop := ∃ t : Addr, v = .ref t ∧ H t = some (.tup [.int (x.count : Nat), .int (x.notching : Nat)])
/-- the truth of a question, notching by notching -/
def truthN (k : Nat) (a : Ask) : List Nat := (List.range (2 ^ k)).map fun n => if Vbenae.holds a n = true then 1 else 0
abbrev nvs (l : List Nat) : List V := l.map fun (n : Nat) => V.int (n : Nat)
def aT (ms : List (List Nat)) (a : Ask) : List Nat := Vbenae.askText ⟨ms, [], []⟩ a
theorem aT_eq (f : File) : ∀ a : Ask, Vbenae.askText f a = aT f.marks a
  | .all => rfl
  | .none_ => rfl
  | .mark m => rfl
  | .not_ a => by unfold aT; rw [Vbenae.askText, Vbenae.askText, aT_eq f a] <;> rfl
  | .and_ a b => by unfold aT; rw [Vbenae.askText, Vbenae.askText, aT_eq f a, aT_eq f b] <;> rfl
  | .or_ a b => by unfold aT; rw [Vbenae.askText, Vbenae.askText, aT_eq f a, aT_eq f b] <;> rfl
def QuesAt (H : Hp) (ms : List (List Nat)) (q : List Nat × Ask) (v : V) : Prop := ∃ a dx t : Addr, v = .ref a ∧ H a = some (.ins a_Question dx [("name", tx q.1), ("spoken", tx (aT ms q.2)), ("truth", .ref t)]) ∧ H t = some (.lst (nvs (truthN ms.length q.2)))
def FileAt (H : Hp) (a : Addr) (f : File) : Prop := ∃ (dx m l q : Addr) (ys zs : List V), H a = some (.ins a_CardFile dx [("marks", .ref m), ("lines", .ref l), ("questions", .ref q)]) ∧ H m = some (.lst (f.marks.map tx)) ∧
  H l = some (.lst ys) ∧ Al (LineAt H) f.cards ys ∧ H q = some (.lst zs) ∧ Al (QuesAt H f.marks) f.asks zs
theorem LineAt.fr {C : Addr} {H H' : Hp} (e : Fr C H H') {x : Line} {v : V} (h : LineAt H x v) : LineAt H' x v := by
  obtain ⟨t, rfl, h⟩ := h
  exact ⟨t, rfl, e _ _ (fun _ _ z => by cases z) h⟩
theorem QuesAt.fr {C : Addr} (hC : a_Question ≠ C) {H H' : Hp} (e : Fr C H H') {ms : List (List Nat)} {q : List Nat × Ask} {v : V} (h : QuesAt H ms q v) : QuesAt H' ms q v := by
  obtain ⟨a, dx, t, rfl, h1, h2⟩ := h
  exact ⟨a, dx, t, rfl, e _ _ (fun _ _ z => hC (HO.ins.inj z).1) h1, e _ _ (fun _ _ z => by cases z) h2⟩
theorem FileAt.fr {C : Addr} (hC : a_Question ≠ C) (hD : a_CardFile ≠ C) {H H' : Hp} (e : Fr C H H') {a : Addr} {f : File} (h : FileAt H a f) : FileAt H' a f := by
  obtain ⟨dx, m, l, q, ys, zs, h1, h2, h3, h4, h5, h6⟩ := h
  exact ⟨dx, m, l, q, ys, zs, e _ _ (fun _ _ z => hD (HO.ins.inj z).1) h1, e _ _ (fun _ _ z => by cases z) h2, e _ _ (fun _ _ z => by cases z) h3, h4.imp fun _ _ z => z.fr e, e _ _ (fun _ _ z => by cases z) h5, h6.imp fun _ _ z => z.fr hC e⟩
theorem QuesAt.ex {H H' : Hp} (e : Ex H H') {ms : List (List Nat)} {q : List Nat × Ask} {v : V} (h : QuesAt H ms q v) : QuesAt H' ms q v := h.fr (C := 0) (by decide) (frx e)
theorem FileAt.ex {H H' : Hp} (e : Ex H H') {a : Addr} {f : File} (h : FileAt H a f) : FileAt H' a f := h.fr (C := 0) (by decide) (by decide) (frx e)
theorem LineAt.ex {H H' : Hp} (e : Ex H H') {x : Line} {v : V} (h : LineAt H x v) : LineAt H' x v := h.fr (C := 0) (frx e)
/-- what a file on the desk keeps to -/
structure Wf (f : File) : Prop where
  marks : f.marks.length ≤ 6
  nodup : f.marks.Nodup
  names : ∀ m ∈ f.marks, Vbenae.isMarkName m = true
  cards : f.cards.length ≤ 30
  line : ∀ x ∈ f.cards, x.count ≤ 1000000 ∧ x.notching < 2 ^ f.marks.length
  asks : f.asks.length ≤ 6
  ask : ∀ q ∈ f.asks, VbenCore.isName q.1 = true ∧ (aT f.marks q.2).length ≤ 60000
theorem truthN_len (k : Nat) (a : Ask) : (truthN k a).length = 2 ^ k := by
  unfold truthN
  rw [List.length_map, List.length_range]
theorem truthN_at {k : Nat} {a : Ask} {n : Nat} (h : n < 2 ^ k) : (truthN k a)[n]? = some (if Vbenae.holds a n = true then 1 else 0) := by
  unfold truthN
  rw [List.getElem?_map, List.getElem?_range h] <;> rfl
theorem nvs_at {l : List Nat} {i : Nat} {x : Nat} (h : l[i]? = some x) : (nvs l)[i]? = some (.int (x : Nat)) := by
  rw [List.getElem?_map, h] <;> rfl
theorem pow6 {k : Nat} (h : k ≤ 6) : 0 < 2 ^ k ∧ 2 ^ k ≤ 64 := ⟨Nat.pow_pos (by decide), Nat.pow_le_pow_right (by decide) h⟩
/-! ### sums -/
theorem foldl_add (l : List Nat) : ∀ a : Nat, l.foldl (fun a b => a + b) a = a + l.sum := by
  induction l with
  | nil => intro a; simp
  | cons x r ih => intro a; rw [List.foldl_cons, ih, List.sum_cons]; omega
theorem sum_ints (l : List Nat) : (l.map fun (n : Nat) => (n : Int)).sum = ((l.foldl (fun a b => a + b) 0 : Nat) : Int) := by
  rw [foldl_add]
  induction l with
  | nil => rfl
  | cons x r ih =>
    rw [List.map_cons, List.sum_cons, ih, List.sum_cons]
    omega
theorem nvs_map (l : List Nat) : nvs l = (l.map fun (n : Nat) => (n : Int)).map V.int := by
  rw [List.map_map] <;> rfl
end N
namespace N
open PySem PySem.Spec PyProof.Rows L2
open Vbenae (File Line Ask)
/-- a new instance, its fields laid -/
def made (H : Hp) (x dx C : Addr) (fs : List (Str × V)) : Hp := upd (upd H dx (.own x)) x (.ins C dx fs)
theorem made_ex {H : Hp} {x dx C : Addr} {fs : List (Str × V)} (hx : H x = none) (hd : H dx = none) : Ex H (made H x dx C fs) := fun a o h => by
  unfold made
  rw [upd_ne (ne_of_none h hx), upd_ne (ne_of_none h hd)]
  exact h
theorem made_at {H : Hp} {x dx C : Addr} {fs : List (Str × V)} : made H x dx C fs x = some (.ins C dx fs) := upd_same
theorem made_eq {H : Hp} {x dx C : Addr} {fs fs' : List (Str × V)} : upd (upd (upd H dx (.own x)) x (.ins C dx fs)) x (.ins C dx fs') = made H x dx C fs' := upd_upd
/-- __init__ that keeps what it is handed -/
def sp_keep (C : Addr) (fl : List Str) : Sp := fun vs H Q _ => ∃ (x dx : Addr) (ws : List V), vs = .ref x :: ws ∧ ws.length = fl.length ∧ H x = some (.ins C dx []) ∧ Q .non (upd H x (.ins C dx (fl.zip ws)))
/-- C(..) of such a class -/
theorem mk_keep {C : Addr} {fl : List Str} {ws : List V} {H : Hp} {Q : VK} {E : XK} (hl : ws.length = fl.length) (q : ∀ x dx, H x = none → H dx = none → Q (.ref x) (made H x dx C (fl.zip ws))) :
    ∀ x dx, H x = none → H dx = none → dx ≠ x → sp_keep C fl (.ref x :: (ws ++ [])) (upd (upd H dx (.own x)) x (.ins C dx [])) (fun v H2 => v = .non ∧ Q (.ref x) H2) E := fun x dx hx hd _ => by
  rw [List.append_nil]
  refine ⟨x, dx, ws, rfl, hl, upd_same, rfl, ?_⟩
  rw [upd_upd]
  exact q x dx hx hd
section
variable {P : Program} {w : World} {K : PySem.W.Frag} {mg : Str → Option Value} {base : Heap}
theorem sc_Question_init : FnScope ["self", "name", "spoken", "truth"] ["self", "name", "spoken", "truth"] (defScope s_Question_init) := C8.fnScope_by (by decide +kernel)
theorem c_Question_init (T : Tx K mg) : Mak P w K mg base 1 "Question" a_Question (sp_keep a_Question ["name", "spoken", "truth"]) := by
  obtain ⟨fd, F⟩ := T.d_Question_init
  refine ⟨⟨_, fd, ["self", "name", "spoken", "truth"], T.mk_Question, F.ok sc_Question_init (fun vs H Q E h => by obtain ⟨x, dx, ws, rfl, hl, _⟩ := h; exact congrArg (· + 1) hl) (fun cdv A outer s H vs Q E hr h => ⟨_, pss_cons (ps_fld (pv 0) (pv 1) rfl)
    (pss_cons (ps_fld (pv 0) (pv 2) rfl)
    (pss_one (ps_fld (pv 0) (pv 3) rfl))), ?_⟩), F.binds fun _ _ _ _ _ _ us hl => match us, hl with | [_, _, _, _], _ => rfl⟩, T.g_Question⟩
  obtain ⟨x, dx, ws, rfl, hl, hx, q⟩ := h
  match ws, hl with
  | [v1, v2, v3], _ =>
    refine ⟨_, rfl, _, rfl, x, _, dx, _, rfl, hx, T.cl_Question, T.na_Question_name, (by show 0 < 1000; decide), ?_⟩
    refine ⟨_, rfl, _, rfl, x, _, dx, _, rfl, upd_same, T.cl_Question, T.na_Question_spoken, (by show 1 < 1000; decide), ?_⟩
    refine ⟨_, rfl, _, rfl, x, _, dx, _, rfl, upd_same, T.cl_Question, T.na_Question_truth, (by show 2 < 1000; decide), ?_⟩
    rw [upd_upd, upd_upd]
    exact q
theorem sc_CardFile_init : FnScope ["self", "marks", "lines", "questions"] ["self", "marks", "lines", "questions"] (defScope s_CardFile_init) := C8.fnScope_by (by decide +kernel)
theorem c_CardFile_init (T : Tx K mg) : Mak P w K mg base 1 "CardFile" a_CardFile (sp_keep a_CardFile ["marks", "lines", "questions"]) := by
  obtain ⟨fd, F⟩ := T.d_CardFile_init
  refine ⟨⟨_, fd, ["self", "marks", "lines", "questions"], T.mk_CardFile, F.ok sc_CardFile_init (fun vs H Q E h => by obtain ⟨x, dx, ws, rfl, hl, _⟩ := h; exact congrArg (· + 1) hl) (fun cdv A outer s H vs Q E hr h => ⟨_, pss_cons (ps_fld (pv 0) (pv 1) rfl)
    (pss_cons (ps_fld (pv 0) (pv 2) rfl)
    (pss_one (ps_fld (pv 0) (pv 3) rfl))), ?_⟩), F.binds fun _ _ _ _ _ _ us hl => match us, hl with | [_, _, _, _], _ => rfl⟩, T.g_CardFile⟩
  obtain ⟨x, dx, ws, rfl, hl, hx, q⟩ := h
  match ws, hl with
  | [v1, v2, v3], _ =>
    refine ⟨_, rfl, _, rfl, x, _, dx, _, rfl, hx, T.cl_CardFile, T.na_CardFile_marks, (by show 0 < 1000; decide), ?_⟩
    refine ⟨_, rfl, _, rfl, x, _, dx, _, rfl, upd_same, T.cl_CardFile, T.na_CardFile_lines, (by show 1 < 1000; decide), ?_⟩
    refine ⟨_, rfl, _, rfl, x, _, dx, _, rfl, upd_same, T.cl_CardFile, T.na_CardFile_questions, (by show 2 < 1000; decide), ?_⟩
    rw [upd_upd, upd_upd]
    exact q
theorem sc_Pack_init : FnScope ["self", "notchings", "needlings"] ["self", "notchings", "needlings"] (defScope s_Pack_init) := C8.fnScope_by (by decide +kernel)
theorem c_Pack_init (T : Tx K mg) : Mak P w K mg base 1 "Pack" a_Pack (sp_keep a_Pack ["notchings", "needlings"]) := by
  obtain ⟨fd, F⟩ := T.d_Pack_init
  refine ⟨⟨_, fd, ["self", "notchings", "needlings"], T.mk_Pack, F.ok sc_Pack_init (fun vs H Q E h => by obtain ⟨x, dx, ws, rfl, hl, _⟩ := h; exact congrArg (· + 1) hl) (fun cdv A outer s H vs Q E hr h => ⟨_, pss_cons (ps_fld (pv 0) (pv 1) rfl)
    (pss_one (ps_fld (pv 0) (pv 2) rfl)), ?_⟩), F.binds fun _ _ _ _ _ _ us hl => match us, hl with | [_, _, _], _ => rfl⟩, T.g_Pack⟩
  obtain ⟨x, dx, ws, rfl, hl, hx, q⟩ := h
  match ws, hl with
  | [v1, v2], _ =>
    refine ⟨_, rfl, _, rfl, x, _, dx, _, rfl, hx, T.cl_Pack, T.na_Pack_notchings, (by show 0 < 1000; decide), ?_⟩
    refine ⟨_, rfl, _, rfl, x, _, dx, _, rfl, upd_same, T.cl_Pack, T.na_Pack_needlings, (by show 1 < 1000; decide), ?_⟩
    rw [upd_upd]
    exact q
theorem sc_Part_init : FnScope ["self", "truth", "spoken", "joint"] ["self", "truth", "spoken", "joint"] (defScope s_Part_init) := C8.fnScope_by (by decide +kernel)
theorem c_Part_init (T : Tx K mg) : Mak P w K mg base 1 "Part" a_Part (sp_keep a_Part ["truth", "spoken", "joint"]) := by
  obtain ⟨fd, F⟩ := T.d_Part_init
  refine ⟨⟨_, fd, ["self", "truth", "spoken", "joint"], T.mk_Part, F.ok sc_Part_init (fun vs H Q E h => by obtain ⟨x, dx, ws, rfl, hl, _⟩ := h; exact congrArg (· + 1) hl) (fun cdv A outer s H vs Q E hr h => ⟨_, pss_cons (ps_fld (pv 0) (pv 1) rfl)
    (pss_cons (ps_fld (pv 0) (pv 2) rfl)
    (pss_one (ps_fld (pv 0) (pv 3) rfl))), ?_⟩), F.binds fun _ _ _ _ _ _ us hl => match us, hl with | [_, _, _, _], _ => rfl⟩, T.g_Part⟩
  obtain ⟨x, dx, ws, rfl, hl, hx, q⟩ := h
  match ws, hl with
  | [v1, v2, v3], _ =>
    refine ⟨_, rfl, _, rfl, x, _, dx, _, rfl, hx, T.cl_Part, T.na_Part_truth, (by show 0 < 1000; decide), ?_⟩
    refine ⟨_, rfl, _, rfl, x, _, dx, _, rfl, upd_same, T.cl_Part, T.na_Part_spoken, (by show 1 < 1000; decide), ?_⟩
    refine ⟨_, rfl, _, rfl, x, _, dx, _, rfl, upd_same, T.cl_Part, T.na_Part_joint, (by show 2 < 1000; decide), ?_⟩
    rw [upd_upd, upd_upd]
    exact q
theorem sc_Cube_init : FnScope ["self", "halves", "cards", "pile", "cost", "mark", "depth"] ["self", "halves", "cards", "pile", "cost", "mark", "depth"] (defScope s_Cube_init) := C8.fnScope_by (by decide +kernel)
theorem c_Cube_init (T : Tx K mg) : Mak P w K mg base 1 "Cube" a_Cube (sp_keep a_Cube ["halves", "cards", "pile", "cost", "mark", "depth"]) := by
  obtain ⟨fd, F⟩ := T.d_Cube_init
  refine ⟨⟨_, fd, ["self", "halves", "cards", "pile", "cost", "mark", "depth"], T.mk_Cube, F.ok sc_Cube_init (fun vs H Q E h => by obtain ⟨x, dx, ws, rfl, hl, _⟩ := h; exact congrArg (· + 1) hl) (fun cdv A outer s H vs Q E hr h => ⟨_, pss_cons (ps_fld (pv 0) (pv 1) rfl)
    (pss_cons (ps_fld (pv 0) (pv 2) rfl)
    (pss_cons (ps_fld (pv 0) (pv 3) rfl)
    (pss_cons (ps_fld (pv 0) (pv 4) rfl)
    (pss_cons (ps_fld (pv 0) (pv 5) rfl)
    (pss_one (ps_fld (pv 0) (pv 6) rfl)))))), ?_⟩), F.binds fun _ _ _ _ _ _ us hl => match us, hl with | [_, _, _, _, _, _, _], _ => rfl⟩, T.g_Cube⟩
  obtain ⟨x, dx, ws, rfl, hl, hx, q⟩ := h
  match ws, hl with
  | [v1, v2, v3, v4, v5, v6], _ =>
    refine ⟨_, rfl, _, rfl, x, _, dx, _, rfl, hx, T.cl_Cube, T.na_Cube_halves, (by show 0 < 1000; decide), ?_⟩
    refine ⟨_, rfl, _, rfl, x, _, dx, _, rfl, upd_same, T.cl_Cube, T.na_Cube_cards, (by show 1 < 1000; decide), ?_⟩
    refine ⟨_, rfl, _, rfl, x, _, dx, _, rfl, upd_same, T.cl_Cube, T.na_Cube_pile, (by show 2 < 1000; decide), ?_⟩
    refine ⟨_, rfl, _, rfl, x, _, dx, _, rfl, upd_same, T.cl_Cube, T.na_Cube_cost, (by show 3 < 1000; decide), ?_⟩
    refine ⟨_, rfl, _, rfl, x, _, dx, _, rfl, upd_same, T.cl_Cube, T.na_Cube_mark, (by show 4 < 1000; decide), ?_⟩
    refine ⟨_, rfl, _, rfl, x, _, dx, _, rfl, upd_same, T.cl_Cube, T.na_Cube_depth, (by show 5 < 1000; decide), ?_⟩
    rw [upd_upd, upd_upd, upd_upd, upd_upd, upd_upd]
    exact q
end
end N
namespace N
open PySem PySem.Spec PyProof.Rows L2
open Vbenae (File Line Ask)
section
variable {P : Program} {w : World} {K : PySem.W.Frag} {mg : Str → Option Value} {base : Heap}
abbrev cfs (m l q : Addr) : List (Str × V) := [("marks", .ref m), ("lines", .ref l), ("questions", .ref q)]
/-- a new file -/
def NewFile (H : Hp) (g : File) (Q : VK) : Prop := ∀ H' b, Ex H H' → H b = none → FileAt H' b g → Q (.ref b) H'
def sp_empty_file : Sp := fun vs H Q _ => vs = [] ∧ NewFile H Vbenae.start Q
theorem sc_empty_file : FnScope [] [] (defScope s_empty_file) := C8.fnScope_by (by decide +kernel)
theorem c_empty_file (T : Tx K mg) : Cal P w K mg base CX0 3 "empty_file" a_empty_file sp_empty_file := by
  obtain ⟨fd, F⟩ := T.d_empty_file
  refine ⟨⟨fd, [], F.ok sc_empty_file (fun vs H Q E h => by obtain ⟨rfl, _⟩ := h; rfl) (fun cdv A outer s H vs Q E hr h => ⟨_, pss_one (ps_ret (pe_k (c_CardFile_init T) hr (by decide) rfl (pa_cons (pe_lst pa_nil) (pa_cons (pe_lst pa_nil) (pa_cons (pe_lst pa_nil) pa_nil))))), ?_⟩), F.binds fun _ _ _ _ _ _ us hl => match us, hl with | [], _ => rfl⟩, T.g_empty_file, F.kp⟩
  obtain ⟨rfl, q⟩ := h
  refine ⟨szl (Nat.zero_le _), fun p hp => ⟨szl (Nat.zero_le _), fun p2 hp2 => ⟨szl (Nat.zero_le _), fun p3 hp3 => ?_⟩⟩⟩
  refine mk_keep rfl fun x dx hx hd => ?_
  have e1 : Ex H _ := exn (o := .lst []) hp
  have e2 := exn (o := .lst []) hp2
  have e3 := exn (o := .lst []) hp3
  have e4 := made_ex (C := a_CardFile) (fs := cfs p p2 p3) hx hd
  exact q _ _ (ext (ext (ext e1 e2) e3) e4) (frb (ext (ext e1 e2) e3) hx) ⟨dx, p, p2, p3, [], [], made_at, e4 _ _ (e3 _ _ (e2 _ _ upd_same)), e4 _ _ (e3 _ _ upd_same), trivial, e4 _ _ upd_same, trivial⟩
def sp_with_line : Sp := fun vs H Q _ => ∃ a f x v, vs = [.ref a, v] ∧ FileAt H a f ∧ f.cards.length ≤ 30 ∧ LineAt H x v ∧ NewFile H { f with cards := f.cards ++ [x] } Q
theorem sc_with_line : FnScope ["card_file", "line"] ["card_file", "line"] (defScope s_with_line) := C8.fnScope_by (by decide +kernel)
theorem c_with_line (T : Tx K mg) : Cal P w K mg base CX0 3 "with_line" a_with_line sp_with_line := by
  obtain ⟨fd, F⟩ := T.d_with_line
  refine ⟨⟨fd, ["card_file", "line"], F.ok sc_with_line (fun vs H Q E h => by obtain ⟨a, f, x, v, rfl, _⟩ := h; rfl) (fun cdv A outer s H vs Q E hr h => ⟨_, pss_one (ps_ret (pe_k (c_CardFile_init T) hr (by decide) rfl (pa_cons (pe_fld (pv 0) rfl) (pa_cons (pe_op op_cat (pe_fld (pv 0) rfl) (pe_lst (pa_cons (pv 1) pa_nil))) (pa_cons (pe_fld (pv 0) rfl) pa_nil))))), ?_⟩), F.binds fun _ _ _ _ _ _ us hl => match us, hl with | [_, _], _ => rfl⟩, T.g_with_line, F.kp⟩
  obtain ⟨a, f, x, v, rfl, hf, hz, hv, q⟩ := h
  obtain ⟨dx, m, l, qq, ys, zs, h1, h2, h3, h4, h5, h6⟩ := id hf
  refine ⟨_, rfl, a, _, dx, _, _, rfl, h1, T.cl_CardFile, T.na_CardFile_marks, rfl, _, rfl, a, _, dx, _, _, rfl, h1, T.cl_CardFile, T.na_CardFile_lines, rfl, _, rfl, by show 1 ≤ sizeLine; decide, fun p hp => ?_⟩
  have e1 := exn (o := .lst [v]) hp
  have hl := h4.len
  refine ⟨_, _, _, _, rfl, rfl, e1 _ _ h3, upd_same, szl (by show ys.length + 1 ≤ 1000000; omega), fun p2 hp2 => ?_⟩
  have e2 := exn (o := .lst (ys ++ [v])) hp2
  refine ⟨_, rfl, a, _, dx, _, _, rfl, e2 _ _ (e1 _ _ h1), T.cl_CardFile, T.na_CardFile_questions, rfl, ?_⟩
  refine mk_keep rfl fun x2 dx2 hx hd => ?_
  have e3 := made_ex (C := a_CardFile) (fs := cfs m p2 qq) hx hd
  have e := ext (ext e1 e2) e3
  exact q _ _ e (frb (ext e1 e2) hx) ⟨dx2, m, p2, qq, ys ++ [v], zs, made_at, e _ _ h2, e3 _ _ upd_same, (h4.imp fun _ _ z => z.ex e).snoc (hv.ex e), e _ _ h5, h6.imp fun _ _ z => z.ex e⟩
def sp_with_question : Sp := fun vs H Q _ => ∃ a f x v, vs = [.ref a, v] ∧ FileAt H a f ∧ f.asks.length ≤ 30 ∧ QuesAt H f.marks x v ∧ NewFile H { f with asks := f.asks ++ [x] } Q
theorem sc_with_question : FnScope ["card_file", "question"] ["card_file", "question"] (defScope s_with_question) := C8.fnScope_by (by decide +kernel)
theorem c_with_question (T : Tx K mg) : Cal P w K mg base CX0 3 "with_question" a_with_question sp_with_question := by
  obtain ⟨fd, F⟩ := T.d_with_question
  refine ⟨⟨fd, ["card_file", "question"], F.ok sc_with_question (fun vs H Q E h => by obtain ⟨a, f, x, v, rfl, _⟩ := h; rfl) (fun cdv A outer s H vs Q E hr h => ⟨_, pss_one (ps_ret (pe_k (c_CardFile_init T) hr (by decide) rfl (pa_cons (pe_fld (pv 0) rfl) (pa_cons (pe_fld (pv 0) rfl) (pa_cons (pe_op op_cat (pe_fld (pv 0) rfl) (pe_lst (pa_cons (pv 1) pa_nil))) pa_nil))))), ?_⟩), F.binds fun _ _ _ _ _ _ us hl => match us, hl with | [_, _], _ => rfl⟩, T.g_with_question, F.kp⟩
  obtain ⟨a, f, x, v, rfl, hf, hz, hv, q⟩ := h
  obtain ⟨dx, m, l, qq, ys, zs, h1, h2, h3, h4, h5, h6⟩ := id hf
  refine ⟨_, rfl, a, _, dx, _, _, rfl, h1, T.cl_CardFile, T.na_CardFile_marks, rfl, _, rfl, a, _, dx, _, _, rfl, h1, T.cl_CardFile, T.na_CardFile_lines, rfl, _, rfl, a, _, dx, _, _, rfl, h1, T.cl_CardFile, T.na_CardFile_questions, rfl, _, rfl, by show 1 ≤ sizeLine; decide, fun p hp => ?_⟩
  have e1 := exn (o := .lst [v]) hp
  have hl := h6.len
  refine ⟨_, _, _, _, rfl, rfl, e1 _ _ h5, upd_same, szl (by show zs.length + 1 ≤ 1000000; omega), fun p2 hp2 => ?_⟩
  have e2 := exn (o := .lst (zs ++ [v])) hp2
  refine mk_keep rfl fun x2 dx2 hx hd => ?_
  have e3 := made_ex (C := a_CardFile) (fs := cfs m l p2) hx hd
  have e := ext (ext e1 e2) e3
  exact q _ _ e (frb (ext e1 e2) hx) ⟨dx2, m, l, p2, ys, zs ++ [v], made_at, e _ _ h2, e _ _ h3, h4.imp fun _ _ z => z.ex e, e3 _ _ upd_same, (h6.imp fun _ _ z => z.ex e).snoc (hv.ex e)⟩
end
end N
namespace N
open PySem PySem.Spec PyProof.Rows L2
open Vbenae (File Line Ask)
/-! ### slices -/
theorem cut_to {xs : List V} {n : Nat} (h : n ≤ xs.length) : cutV xs none (some (n : Int)) = xs.take n := by
  unfold cutV
  rw [HT.sIx_none, HT.sIx_nat, List.drop_zero, Nat.sub_zero, Nat.min_eq_left h]
theorem cut_from {xs : List V} {n : Nat} (h : n ≤ xs.length) : cutV xs (some (n : Int)) none = xs.drop n := by
  unfold cutV
  rw [HT.sIx_none, HT.sIx_nat, Nat.min_eq_left h]
  exact List.take_of_length_le (by rw [List.length_drop]; exact Nat.le_refl _)
theorem cut_mid {xs : List V} {n m : Nat} (h1 : n ≤ m) (h : m ≤ xs.length) : cutV xs (some (n : Int)) (some (m : Int)) = (xs.drop n).take (m - n) := by
  unfold cutV
  rw [HT.sIx_nat, HT.sIx_nat, Nat.min_eq_left h, Nat.min_eq_left (Nat.le_trans h1 h)]
/-! ### bits -/
theorem notched_bit (n m : Nat) : Vbenae.notched n m = n.testBit m := by
  unfold Vbenae.notched
  rw [Nat.testBit_eq_decide_div_mod_eq]
  by_cases h : n / 2 ^ m % 2 = 1
  · rw [decide_eq_true h, h]; rfl
  · rw [decide_eq_false h]; simpa using h
def flip (n m : Nat) : Nat := if Vbenae.notched n m = true then n - 2 ^ m else n + 2 ^ m
theorem bit_le {n m : Nat} (h : Vbenae.notched n m = true) : 2 ^ m ≤ n := by
  unfold Vbenae.notched at h
  have h1 : n / 2 ^ m % 2 = 1 := by simpa using h
  have h2 : 1 ≤ n / 2 ^ m := by
    have := Nat.mod_le (n / 2 ^ m) 2
    omega
  have := (Nat.le_div_iff_mul_le (Nat.pow_pos (by decide) : 0 < 2 ^ m)).mp h2
  omega
theorem and_pow (n m : Nat) : n &&& 2 ^ m = if n.testBit m = true then 2 ^ m else 0 := by
  apply Nat.eq_of_testBit_eq
  intro i
  rw [Nat.testBit_and, Nat.testBit_two_pow]
  by_cases h : m = i
  · subst h
    cases hb : n.testBit m <;> simp [Nat.testBit_two_pow]
  · cases hb : n.testBit m <;> simp [h, Nat.testBit_two_pow]
theorem xor_flip (n m : Nat) : Builtin.bitXor (n : Int) ((2 ^ m : Nat) : Int) = ((flip n m : Nat) : Int) := by
  rw [bitXor_and, PySem.W.os_band, and_pow]
  unfold flip
  rw [notched_bit]
  cases h : n.testBit m
  · rw [if_neg Bool.false_ne_true, if_neg Bool.false_ne_true]; omega
  · rw [if_pos rfl, if_pos rfl]
    have := bit_le (n := n) (m := m) (by rw [notched_bit]; exact h)
    omega
section
variable {P : Program} {w : World} {K : PySem.W.Frag} {mg : Str → Option Value} {base : Heap}
def sp_without_question : Sp := fun vs H Q _ => ∃ a f, ∃ n : Nat, vs = [.ref a, .int n] ∧ FileAt H a f ∧ n < f.asks.length ∧ f.asks.length ≤ 6 ∧ NewFile H { f with asks := f.asks.eraseIdx n } Q
theorem sc_without_question : FnScope ["card_file", "number", "left"] ["card_file", "number"] (defScope s_without_question) := C8.fnScope_by (by decide +kernel)
theorem c_without_question (T : Tx K mg) : Cal P w K mg base CX0 3 "without_question" a_without_question sp_without_question := by
  obtain ⟨fd, F⟩ := T.d_without_question
  refine ⟨⟨fd, ["card_file", "number"], F.ok sc_without_question (fun vs H Q E h => by obtain ⟨a, f, n, rfl, _⟩ := h; rfl) (fun cdv A outer s H vs Q E hr h => ⟨_, pss_cons (ps_set (i := 2) sc_without_question.nd rfl (Or.inl rfl) (pe_op op_cat (pe_slice sl_list (pe_fld (pv 0) rfl) po_none (po_some (pv 1))) (pe_slice sl_list (pe_fld (pv 0) rfl) (po_some (pe_op op_add (pv 1) pe_int)) po_none)))
    (pss_one (ps_ret (pe_k (c_CardFile_init T) hr (by decide) rfl (pa_cons (pe_fld (pv 0) rfl) (pa_cons (pe_fld (pv 0) rfl) (pa_cons (pv 2) pa_nil)))))), ?_⟩), F.binds fun _ _ _ _ _ _ us hl => match us, hl with | [_, _], _ => rfl⟩, T.g_without_question, F.kp⟩
  obtain ⟨a, f, n, rfl, hf, hn, hz, q⟩ := h
  obtain ⟨dx, m, l, qq, ys, zs, h1, h2, h3, h4, h5, h6⟩ := id hf
  have hl := h6.len
  refine ⟨_, rfl, a, _, dx, _, _, rfl, h1, T.cl_CardFile, T.na_CardFile_questions, rfl, _, rfl, _, rfl, _, _, rfl, SqL.of h5, fun p hp => ?_⟩
  rw [cut_to (by omega)]
  have e1 := exn (o := .lst (zs.take n)) hp
  refine ⟨_, rfl, a, _, dx, _, _, rfl, e1 _ _ h1, T.cl_CardFile, T.na_CardFile_questions, rfl, _, rfl, _, _, rfl, rfl, _, rfl, _, _, rfl, SqL.of (e1 _ _ h5), fun p2 hp2 => ?_⟩
  have ec : cutV zs (some ((n : Int) + 1)) none = zs.drop (n + 1) := by
    have := cut_from (xs := zs) (n := n + 1) (by omega)
    exact this
  rw [ec]
  have e2 := exn (o := .lst (zs.drop (n + 1))) hp2
  refine ⟨_, _, _, _, rfl, rfl, e2 _ _ upd_same, upd_same, szl (by rw [List.length_take, List.length_drop]; omega), fun p3 hp3 => ?_⟩
  have e3 := exn (o := .lst (zs.take n ++ zs.drop (n + 1))) hp3
  have e0 := ext (ext e1 e2) e3
  refine ⟨_, rfl, a, _, dx, _, _, rfl, e0 _ _ h1, T.cl_CardFile, T.na_CardFile_marks, rfl, _, rfl, a, _, dx, _, _, rfl, e0 _ _ h1, T.cl_CardFile, T.na_CardFile_lines, rfl, _, rfl, ?_⟩
  refine mk_keep rfl fun x2 dx2 hx hd => ?_
  have e4 := made_ex (C := a_CardFile) (fs := cfs m l p3) hx hd
  have e := ext e0 e4
  exact q _ _ e (frb e0 hx) ⟨dx2, m, l, p3, ys, _, made_at, e _ _ h2, e _ _ h3, h4.imp fun _ _ z => z.ex e, e4 _ _ upd_same, (h6.imp fun _ _ z => z.ex e).erase n⟩
def sp_count_notchings : Sp := fun vs H Q _ => ∃ (a : Addr) (xs : List V), vs = [.ref a] ∧ H a = some (.lst xs) ∧ xs.length ≤ 6 ∧ Q (.int ((2 ^ xs.length : Nat) : Int)) H
theorem sc_count_notchings : FnScope ["marks"] ["marks"] (defScope s_count_notchings) := C8.fnScope_by (by decide +kernel)
theorem c_count_notchings (T : Tx K mg) : Cal P w K mg base CX0 1 "count_notchings" a_count_notchings sp_count_notchings := by
  obtain ⟨fd, F⟩ := T.d_count_notchings
  refine ⟨⟨fd, ["marks"], F.ok sc_count_notchings (fun vs H Q E h => by obtain ⟨a, xs, rfl, _⟩ := h; rfl) (fun cdv A outer s H vs Q E hr h => ⟨_, pss_one (ps_ret (pe_op op_shl pe_int (pe_callB call_len rfl T.f_len PySem.boot_len (pa_cons (pv 0) pa_nil)))), ?_⟩), F.binds fun _ _ _ _ _ _ us hl => match us, hl with | [_], _ => rfl⟩, T.g_count_notchings, F.kp⟩
  obtain ⟨a, xs, rfl, hx, hl, q⟩ := h
  refine ⟨_, rfl, _, xs.length, rfl, .inl ⟨_, SqL.of hx, rfl⟩, _, _, rfl, rfl, ⟨by omega, by omega, by decide⟩, ?_⟩
  refine qi ?_ q
  rw [Int.one_mul, Int.toNat_natCast, Int.natCast_pow] <;> rfl
def sp_count_cards : Sp := fun vs H Q _ => ∃ a f, vs = [.ref a] ∧ FileAt H a f ∧ f.cards.length ≤ 30 ∧ ∀ H', Ex H H' → Q (.int (Vbenae.total f : Nat)) H'
theorem sc_count_cards : FnScope ["card_file", "count", "notching"] ["card_file"] (defScope s_count_cards) := C8.fnScope_by (by decide +kernel)
theorem c_count_cards (T : Tx K mg) : Cal P w K mg base CX0 1 "count_cards" a_count_cards sp_count_cards := by
  obtain ⟨fd, F⟩ := T.d_count_cards
  refine ⟨⟨fd, ["card_file"], F.ok sc_count_cards (fun vs H Q E h => by obtain ⟨a, f, rfl, _⟩ := h; rfl) (fun cdv A outer s H vs Q E hr h => ⟨_, pss_one (ps_ret (pe_callB (cr_sum rfl) rfl T.f_sum (by decide +kernel) (by exact (pa_cons (by exact (pe_lc (own := [("count", 1), ("notching", 2)]) (g := gTup K 2 (gCons (gName 1) (gCons (gName 2) (gNil)))) rfl sc_count_cards.nd (pi_list (pe_fld (pv 0) rfl)) (blkOk_by (own := [("count", 1), ("notching", 2)]) (N := ["card_file", "count", "notching"]) (sc := defScope s_count_cards) (by decide +kernel)) (fun _ _ _ _ _ => by exact (pg_t2 (i1 := 1) (i2 := 2) rfl sc_count_cards.nd rfl rfl rfl rfl)) (fun _ _ _ _ _ => by exact pts_nil) (fun _ _ _ _ _ => by exact (pv 1)))) pa_nil)))), ?_⟩), F.binds fun _ _ _ _ _ _ us hl => match us, hl with | [_], _ => rfl⟩, T.g_count_cards, F.kp⟩
  obtain ⟨a, f, rfl, hf, hz, q⟩ := h
  obtain ⟨dx, m, l, qq, ys, zs, h1, h2, h3, h4, h5, h6⟩ := id hf
  have hl := h4.len
  refine ⟨_, rfl, a, _, dx, _, _, rfl, h1, T.cl_CardFile, T.na_CardFile_lines, rfl, l, rfl, ⟨_, SqL.of h3⟩, fun D hD => ?_⟩
  refine lc_map (walk_list (K := K) (a := l) (xs := ys)) (fun i => f.cards[i]?.elim .non fun x => .int ((x.count : Nat) : Int)) (by omega) hD (fun H2 e2 => SqL.of (e2 _ _ h3)) (fun i x H2 H' C hi e2 y hC => ?_) (fun H2 e2 h2' => ?_)
  · obtain ⟨rfl, hx⟩ := y
    obtain ⟨z, hz2, t, rfl, ht⟩ := h4.get' hx
    refine ⟨t, _, rfl, SqT.of (e2 _ _ ht), rfl, _, _, rfl, _, _, rfl, rfl, rfl, _, rfl, ?_⟩
    have := hC _ exr
    rw [hz2] at this
    exact this
  · have e : (List.range ys.length).map (fun i => f.cards[i]?.elim V.non fun x => V.int ((x.count : Nat) : Int)) = ((f.cards.map fun x => x.count).map fun (n : Nat) => (n : Int)).map V.int := by
      rw [← hl, List.map_map, List.map_map]
      exact range_map f.cards (fun x => V.int ((x.count : Nat) : Int)) _
    rw [e] at h2'
    refine ⟨_, _, rfl, SqL.of h2', ?_⟩
    refine qi ?_ (q _ e2)
    exact sum_ints _
def sp_count_fallen : Sp := fun vs H Q _ => ∃ a f x v, vs = [.ref a, v] ∧ FileAt H a f ∧ Wf f ∧ QuesAt H f.marks x v ∧ ∀ H', Ex H H' → Q (.int ((((f.cards.filter fun y => Vbenae.holds x.2 y.notching).map fun y => y.count).foldl (fun a b => a + b) 0 : Nat) : Int)) H'
theorem sc_count_fallen : FnScope ["card_file", "question", "count", "notching"] ["card_file", "question"] (defScope s_count_fallen) := C8.fnScope_by (by decide +kernel)
theorem c_count_fallen (T : Tx K mg) : Cal P w K mg base CX0 1 "count_fallen" a_count_fallen sp_count_fallen := by
  obtain ⟨fd, F⟩ := T.d_count_fallen
  refine ⟨⟨fd, ["card_file", "question"], F.ok sc_count_fallen (fun vs H Q E h => by obtain ⟨a, f, x, v, rfl, _⟩ := h; rfl) (fun cdv A outer s H vs Q E hr h => ⟨_, pss_one (ps_ret (pe_callB (cr_sum rfl) rfl T.f_sum (by decide +kernel) (by exact (pa_cons (by exact (pe_lc (own := [("count", 2), ("notching", 3)]) (g := gTup K 2 (gCons (gName 2) (gCons (gName 3) (gNil)))) rfl sc_count_fallen.nd (pi_list (pe_fld (pv 0) rfl)) (blkOk_by (own := [("count", 2), ("notching", 3)]) (N := ["card_file", "question", "count", "notching"]) (sc := defScope s_count_fallen) (by decide +kernel)) (fun _ _ _ _ _ => by exact (pg_t2 (i1 := 2) (i2 := 3) rfl sc_count_fallen.nd rfl rfl rfl rfl)) (fun _ _ _ _ _ => by exact (pts_one (pt_cmpR op_eq (pe_ix (ix_listK (K := K) rfl) (pe_fldK (K := K) rfl (pv 1) rfl) (pv 3) (fun _ _ => rfl)) pe_int (nomark _)))) (fun _ _ _ _ _ => by exact (pv 2)))) pa_nil)))), ?_⟩), F.binds fun _ _ _ _ _ _ us hl => match us, hl with | [_, _], _ => rfl⟩, T.g_count_fallen, F.kp⟩
  obtain ⟨a, f, x, v, rfl, hf, wf, hv, q⟩ := h
  obtain ⟨dx, m, l, qq, ys, zs, h1, h2, h3, h4, h5, h6⟩ := id hf
  obtain ⟨qa, qd, qt, rfl, g1, g2⟩ := hv
  have hl := h4.len
  have hz := wf.cards
  refine ⟨_, rfl, a, _, dx, _, _, rfl, h1, T.cl_CardFile, T.na_CardFile_lines, rfl, l, rfl, ⟨_, SqL.of h3⟩, fun D hD => ?_⟩
  refine lc_val (walk_list (K := K) (a := l) (xs := ys)) (fun i => f.cards[i]?.bind fun y => if Vbenae.holds x.2 y.notching = true then some (V.int ((y.count : Nat) : Int)) else none) (by omega) hD (fun H2 e2 => SqL.of (e2 _ _ h3)) (fun i u H2 H' C C0 hi e2 y hC hC0 => ?_) (fun H2 e2 h2' => ?_)
  · obtain ⟨rfl, hx⟩ := y
    obtain ⟨z, hz2, t, rfl, ht⟩ := h4.get' hx
    have hb := (wf.line z (List.mem_of_getElem? hz2)).2
    rw [hz2] at hC hC0
    refine ⟨t, _, rfl, SqT.of (e2 _ _ ht), rfl, _, _, rfl, _, _, rfl, rfl, rfl, _, rfl, qa, _, qd, _, _, rfl, e2 _ _ g1, T.cl_Question, T.na_Question_truth, rfl, _, rfl, _, _, _, _, rfl, rfl, SqL.of (e2 _ _ g2), atI_nat (nvs_at (truthN_at hb)), rfl, _, rfl, ?_⟩
    refine ite2 (fun c => ?_) (fun c => ?_)
    · refine ⟨_, rfl, hC _ _ exr ?_⟩
      have : Vbenae.holds x.2 z.notching = true := by
        have c2 := V.int.inj (of_decide_eq_true c)
        by_cases hh : Vbenae.holds x.2 z.notching = true
        · exact hh
        · rw [if_neg hh] at c2; exact absurd c2 (by decide)
      show (if Vbenae.holds x.2 z.notching = true then some (V.int ((z.count : Nat) : Int)) else none) = _
      rw [if_pos this]
    · refine hC0 _ exr ?_
      have : ¬ Vbenae.holds x.2 z.notching = true := fun hh => c (decide_eq_true (by rw [if_pos hh]; rfl))
      show (if Vbenae.holds x.2 z.notching = true then some (V.int ((z.count : Nat) : Int)) else none) = _
      rw [if_neg this]
  · rw [← hl, range_fm, fm_filter] at h2'
    have e : (f.cards.filter fun y => Vbenae.holds x.2 y.notching).map (fun y => V.int ((y.count : Nat) : Int)) = (((f.cards.filter fun y => Vbenae.holds x.2 y.notching).map fun y => y.count).map fun (n : Nat) => (n : Int)).map V.int := by
      rw [List.map_map, List.map_map] <;> rfl
    rw [e] at h2'
    refine ⟨_, _, rfl, SqL.of h2', ?_⟩
    exact qi (sum_ints _) (q _ e2)
end
end N
namespace N
open PySem PySem.Spec PyProof.Rows L2
open Vbenae (File Line Ask)
/-! ### lists by places -/
theorem rep_flat (k : Nat) (v : V) : (List.replicate k [v]).flatten = List.replicate k v := by
  induction k with
  | zero => rfl
  | succ k ih => rw [List.replicate_succ, List.flatten_cons, ih] <;> rfl
/-- a list of so many numbers, by places -/
abbrev tab (N : Nat) (g : Nat → Nat) : List Nat := (List.range N).map g
theorem tab_len (N : Nat) (g : Nat → Nat) : (tab N g).length = N := by rw [List.length_map, List.length_range]
theorem tab_at {N : Nat} {g : Nat → Nat} {i : Nat} (h : i < N) : (tab N g)[i]? = some (g i) := by rw [List.getElem?_map, List.getElem?_range h] <;> rfl
theorem nvs_len (l : List Nat) : (nvs l).length = l.length := List.length_map ..
theorem nvs_tab (N : Nat) (g : Nat → Nat) : nvs (tab N g) = (List.range N).map fun n => V.int ((g n : Nat) : Int) := List.map_map ..
theorem tab_zero (N : Nat) : List.replicate N (V.int 0) = nvs (tab N fun _ => 0) := by
  apply List.ext_getElem?
  intro i
  rw [List.getElem?_map, List.getElem?_map, List.getElem?_replicate]
  by_cases h : i < N
  · rw [if_pos h, List.getElem?_range h] <;> rfl
  · rw [if_neg h, List.getElem?_eq_none (by simpa using h)] <;> rfl
theorem tab_set {N : Nat} {g g' : Nat → Nat} {j x : Nat} (hj : j < N) (h1 : g' j = x) (h2 : ∀ n, n ≠ j → g' n = g n) : (nvs (tab N g)).set j (.int (x : Nat)) = nvs (tab N g') := by
  apply List.ext_getElem?
  intro i
  by_cases e : j = i
  · subst e
    rw [List.getElem?_set_self (by rw [nvs_len, tab_len]; exact hj), nvs_at (tab_at hj), h1]
  · rw [List.getElem?_set_ne e]
    by_cases h : i < N
    · rw [nvs_at (tab_at h), nvs_at (tab_at h), h2 i (fun z => e z.symm)]
    · rw [List.getElem?_eq_none (by rw [nvs_len, tab_len]; omega), List.getElem?_eq_none (by rw [nvs_len, tab_len]; omega)]
/-- the cards of a notching among some lines -/
def cardsIn (ls : List Line) (n : Nat) : Nat := ((ls.filter fun x => x.notching == n).map fun x => x.count).foldl (fun a b => a + b) 0
theorem cardsIn_snoc (ls : List Line) (x : Line) (n : Nat) : cardsIn (ls ++ [x]) n = cardsIn ls n + if x.notching = n then x.count else 0 := by
  unfold cardsIn
  rw [List.filter_append, List.map_append, foldl_add, foldl_add, List.sum_append]
  by_cases h : x.notching = n
  · rw [if_pos h]
    have : ([x].filter fun x => x.notching == n) = [x] := by simp [h]
    rw [this]
    simp
  · rw [if_neg h]
    have : ([x].filter fun x => x.notching == n) = [] := by simp [h]
    rw [this]
    simp
theorem take_more {α : Type} {l : List α} {i : Nat} {x : α} (h : l[i]? = some x) : l.take (i + 1) = l.take i ++ [x] := by
  rw [List.take_succ, h] <;> rfl
/-- the answers to some questions, as bits -/
def ansOf (l : List Ask) (n : Nat) : Nat := l.foldr (fun q a => (if Vbenae.holds q n = true then 1 else 0) + 2 * a) 0
theorem ansOf_snoc (l : List Ask) (q : Ask) (n : Nat) : ansOf (l ++ [q]) n = ansOf l n + (if Vbenae.holds q n = true then 1 else 0) * 2 ^ l.length := by
  induction l with
  | nil =>
    show (if Vbenae.holds q n = true then 1 else 0) + 2 * 0 = 0 + (if Vbenae.holds q n = true then 1 else 0) * 1
    omega
  | cons p r ih =>
    show (if Vbenae.holds p n = true then 1 else 0) + 2 * ansOf (r ++ [q]) n = ((if Vbenae.holds p n = true then 1 else 0) + 2 * ansOf r n) + (if Vbenae.holds q n = true then 1 else 0) * 2 ^ (r.length + 1)
    rw [ih, Nat.pow_succ, Nat.mul_add]
    by_cases h : Vbenae.holds q n = true
    · rw [if_pos h]; omega
    · rw [if_neg h]; omega
theorem answers_ans (f : File) (qs : List Nat) (n : Nat) : Vbenae.answers f qs n = ansOf (qs.map (Vbenae.askAt f)) n := by
  unfold Vbenae.answers ansOf
  rw [List.foldr_map]
section
variable {P : Program} {w : World} {K : PySem.W.Frag} {mg : Str → Option Value} {base : Heap}
/-- a new list of numbers -/
def NewNums (H : Hp) (l : List Nat) (Q : VK) : Prop := ∀ H' p, Ex H H' → H p = none → H' p = some (.lst (nvs l)) → Q (.ref p) H'
def sp_cards_by_notching : Sp := fun vs H Q _ => ∃ a f, vs = [.ref a] ∧ FileAt H a f ∧ Wf f ∧ NewNums H (tab (2 ^ f.marks.length) (cardsIn f.cards)) Q
theorem sc_cards_by_notching : FnScope ["card_file", "cards", "count", "notching"] ["card_file"] (defScope s_cards_by_notching) := C8.fnScope_by (by decide +kernel)
theorem c_cards_by_notching (T : Tx K mg) : Cal P w K mg base CX0 2 "cards_by_notching" a_cards_by_notching sp_cards_by_notching := by
  obtain ⟨fd, F⟩ := T.d_cards_by_notching
  refine ⟨⟨fd, ["card_file"], F.ok sc_cards_by_notching (fun vs H Q E h => by obtain ⟨a, f, rfl, _⟩ := h; rfl) (fun cdv A outer s H vs Q E hr h => ⟨_, pss_cons (ps_set (i := 1) sc_cards_by_notching.nd rfl (Or.inl rfl) (pe_op op_rep (pe_lst (pa_cons pe_int pa_nil)) (pe_f (c_count_notchings T) hr (by decide) rfl (pa_cons (pe_fld (pv 0) rfl) pa_nil))))
    (pss_cons (ps_for PassesOwn.never rfl (pi_list (pe_fld (pv 0) rfl)) (pg_tup rfl (pgs_cons (pg_name (i := 2) sc_cards_by_notching.nd rfl (Or.inl rfl)) (pgs_cons (pg_name (i := 3) sc_cards_by_notching.nd rfl (Or.inl rfl)) pgs_nil)))
    (pss_one (ps_asg (pe_op op_add (pe_ix ix_list (pv 1) (pv 3) (fun _ _ => rfl)) (pv 2)) (pg_sub (pv 1) (pv 3) set_list))))
    (pss_one (ps_ret (pv 1)))), ?_⟩), F.binds fun _ _ _ _ _ _ us hl => match us, hl with | [_], _ => rfl⟩, T.g_cards_by_notching, F.kp⟩
  obtain ⟨a, f, rfl, hf, wf, q⟩ := h
  obtain ⟨dx, m, l, qq, ys, zs, h1, h2, h3, h4, h5, h6⟩ := id hf
  have hk := pow6 wf.marks
  refine ⟨by show 1 ≤ sizeLine; decide, fun p0 hp0 => ?_⟩
  have e0 := exn (o := .lst [V.int 0]) hp0
  refine ⟨_, rfl, a, _, dx, _, _, rfl, e0 _ _ h1, T.cl_CardFile, T.na_CardFile_marks, rfl, m, _, rfl, e0 _ _ h2, by rw [List.length_map]; exact wf.marks, ?_⟩
  rw [List.length_map]
  refine ⟨_, _, _, rfl, rfl, upd_same, by omega, by omega, szl (by show 1 * _ ≤ _; rw [Int.toNat_natCast]; omega), fun p hp => ?_⟩
  rw [Int.toNat_natCast, rep_flat, tab_zero]
  have e1 := exn (o := .lst (nvs (tab (2 ^ f.marks.length) fun _ => 0))) hp
  have ea := ext e0 e1
  have hpn : H p = none := frb e0 hp
  refine ⟨_, rfl, a, _, dx, _, _, rfl, ea _ _ h1, T.cl_CardFile, T.na_CardFile_lines, rfl, l, rfl, ⟨_, SqL.of (ea _ _ h3)⟩, ?_⟩
  refine for_list (K := K) (a := l) (xs := ys) (fun i σ H' => ∃ u v, σ = [some (.ref a), some (.ref p), u, v] ∧ Ex H H' ∧ H' p = some (.lst (nvs (tab (2 ^ f.marks.length) (cardsIn (f.cards.take i))))))
    ⟨_, _, rfl, ea, upd_same⟩ (fun i σ H' _ ⟨_, _, _, e, _⟩ => SqL.of (e _ _ h3)) ?_ ?_
  · rintro i y σ H' hi ⟨u, v, rfl, e, hp'⟩
    obtain ⟨x, hx, t, rfl, ht⟩ := h4.get' hi
    have hb := (wf.line x (List.mem_of_getElem? hx)).2
    refine ⟨t, _, rfl, SqT.of (e _ _ ht), rfl, _, _, rfl, _, _, rfl, rfl, ?_⟩
    refine ⟨_, rfl, _, rfl, _, _, _, _, rfl, rfl, SqL.of hp', atI_nat (nvs_at (tab_at hb)), _, rfl, _, _, rfl, rfl, _, rfl, _, rfl, _, _, _, _, rfl, rfl, hp', Evl.ixN_nat (by rw [nvs_len, tab_len]; exact hb), ?_⟩
    refine ⟨_, _, rfl, exm e hpn, ?_⟩
    rw [upd_same, take_more hx]
    refine congrArg (fun z => some (HO.lst z)) ?_
    have es : ((cardsIn (f.cards.take i) x.notching : Nat) : Int) + ((x.count : Nat) : Int) = ((cardsIn (f.cards.take i) x.notching + x.count : Nat) : Int) := by omega
    show (nvs _).set x.notching (V.int (((cardsIn (f.cards.take i) x.notching : Nat) : Int) + ((x.count : Nat) : Int))) = _
    rw [es]
    exact tab_set hb (by rw [cardsIn_snoc, if_pos rfl]) (fun n hn => by rw [cardsIn_snoc, if_neg (fun z => hn z.symm), Nat.add_zero])
  · rintro σ H' ⟨u, v, rfl, e, hp'⟩
    rw [← h4.len, List.take_length] at hp'
    exact ⟨_, rfl, q _ _ e hpn hp'⟩
end
end N
namespace N
open PySem PySem.Spec PyProof.Rows L2
open Vbenae (File Line Ask)
/-- questions in a list -/
def QsAt (H : Hp) (a : Addr) (ms : List (List Nat)) (qs : List (List Nat × Ask)) : Prop := ∃ zs, H a = some (.lst zs) ∧ Al (QuesAt H ms) qs zs
theorem QsAt.ex {H H' : Hp} (e : Ex H H') {a : Addr} {ms : List (List Nat)} {qs : List (List Nat × Ask)} (h : QsAt H a ms qs) : QsAt H' a ms qs := by
  obtain ⟨zs, h1, h2⟩ := h
  exact ⟨zs, e _ _ h1, h2.imp fun _ _ z => z.ex e⟩
section
variable {P : Program} {w : World} {K : PySem.W.Frag} {mg : Str → Option Value} {base : Heap}
def sp_right_piles : Sp := fun vs H Q _ => ∃ a f b qs, vs = [.ref a, .ref b] ∧ FileAt H a f ∧ f.marks.length ≤ 6 ∧ QsAt H b f.marks qs ∧ qs.length ≤ 6 ∧ NewNums H (tab (2 ^ f.marks.length) (ansOf (qs.map (·.2)))) Q
theorem sc_right_piles : FnScope ["card_file", "questions", "piles", "order", "question", "pile", "holds"] ["card_file", "questions"] (defScope s_right_piles) := C8.fnScope_by (by decide +kernel)
theorem c_right_piles (T : Tx K mg) : Cal P w K mg base CX0 2 "right_piles" a_right_piles sp_right_piles := by
  obtain ⟨fd, F⟩ := T.d_right_piles
  refine ⟨⟨fd, ["card_file", "questions"], F.ok sc_right_piles (fun vs H Q E h => by obtain ⟨a, f, b, qs, rfl, _⟩ := h; rfl) (fun cdv A outer s H vs Q E hr h => ⟨_, pss_cons (ps_set (i := 2) sc_right_piles.nd rfl (Or.inl rfl) (pe_op op_rep (pe_lst (pa_cons pe_int pa_nil)) (pe_f (c_count_notchings T) hr (by decide) rfl (pa_cons (pe_fld (pv 0) rfl) pa_nil))))
    (pss_cons (ps_for PassesOwn.never rfl (pi_enum rfl T.f_enumerate (pa_cons (pv 1) pa_nil)) (pg_tup rfl (pgs_cons (pg_name (i := 3) sc_right_piles.nd rfl (Or.inr rfl)) (pgs_cons (pg_name (i := 4) sc_right_piles.nd rfl (Or.inl rfl)) pgs_nil)))
    (pss_one (ps_setLc (i := 2) (own := [("pile", 5), ("holds", 6)]) (g := gTup K 2 (gCons (gName 5) (gCons (gName 6) (gNil)))) rfl sc_right_piles.nd rfl rfl (sw_true rfl rfl rfl (by decide +kernel)) (pi_zip rfl T.f_zip (pa_cons (pv 2) (pa_cons (pe_fld (pv 4) rfl) pa_nil))) (blkOk_by (own := [("pile", 5), ("holds", 6)]) (N := ["card_file", "questions", "piles", "order", "question", "pile", "holds"]) (sc := defScope s_right_piles) (by decide +kernel)) (fun _ _ _ _ _ => by exact (pg_t2 (i1 := 5) (i2 := 6) rfl sc_right_piles.nd rfl rfl rfl rfl)) (fun _ _ _ _ _ => by exact pts_nil) (fun _ _ _ _ _ => by exact (pe_op op_add (pv 5) (pe_op op_shl (pv 6) (pv 3)))))))
    (pss_one (ps_ret (pv 2)))), ?_⟩), F.binds fun _ _ _ _ _ _ us hl => match us, hl with | [_, _], _ => rfl⟩, T.g_right_piles, F.kp⟩
  obtain ⟨a, f, b, qs, rfl, hf, wm, ⟨zq, hb1, hb2⟩, wq, q⟩ := h
  obtain ⟨dx, m, l, qq, ys, zs, h1, h2, h3, h4, h5, h6⟩ := id hf
  have hk := pow6 wm
  have hlq := hb2.len
  refine ⟨by show 1 ≤ sizeLine; decide, fun p0 hp0 => ?_⟩
  have e0 := exn (o := .lst [V.int 0]) hp0
  refine ⟨_, rfl, a, _, dx, _, _, rfl, e0 _ _ h1, T.cl_CardFile, T.na_CardFile_marks, rfl, m, _, rfl, e0 _ _ h2, by rw [List.length_map]; exact wm, ?_⟩
  rw [List.length_map]
  refine ⟨_, _, _, rfl, rfl, upd_same, by omega, by omega, szl (by show 1 * _ ≤ _; rw [Int.toNat_natCast]; omega), fun p hp => ?_⟩
  rw [Int.toNat_natCast, rep_flat, tab_zero]
  have e1 := exn (o := .lst (nvs (tab (2 ^ f.marks.length) fun _ => 0))) hp
  have ea := ext e0 e1
  refine ⟨_, rfl, b, _, rfl, SqL.of (ea _ _ hb1), ?_⟩
  refine for_it (walk_enum (K := K) (a := b) (xs := zq)) (fun i σ H' => ∃ pl u v, σ = [some (.ref a), some (.ref b), some (.ref pl), u, v, none, none] ∧ Ex H H' ∧ H pl = none ∧ H' pl = some (.lst (nvs (tab (2 ^ f.marks.length) (ansOf ((qs.take i).map (·.2)))))))
    ⟨_, _, _, rfl, ea, frb e0 hp, upd_same⟩ (fun i σ H' _ ⟨_, _, _, _, e, _⟩ => SqL.of (e _ _ hb1)) ?_ ?_
  · rintro i y σ H' H2 hi ⟨pl, u, v, rfl, e, hn, hp'⟩ ⟨t, u1, v1, rfl, ht, rfl, hu, hv⟩
    cases hu
    obtain ⟨x, hx, qa, qd, qt, rfl, g1, g2⟩ := hb2.get' hv
    have et := exn (o := .tup [.int (i : Nat), .ref qa]) ht
    have e2 := ext e et
    refine ⟨t, _, rfl, SqT.of upd_same, rfl, _, _, rfl, _, _, rfl, rfl, ?_⟩
    refine ⟨_, rfl, _, rfl, qa, _, qd, _, _, rfl, e2 _ _ g1, T.cl_Question, T.na_Question_truth, rfl, pl, qt, _, _, rfl, SqL.of (et _ _ hp'), SqL.of (e2 _ _ g2), fun D hD => ?_⟩
    refine lc_map (walk_zip (K := K) (a := pl) (b := qt) (n := 2 ^ f.marks.length) (by rw [nvs_len, nvs_len, tab_len, truthN_len, Nat.min_self])) (fun n => .int ((ansOf ((qs.take (i + 1)).map (·.2)) n : Nat) : Int)) (by omega) hD
      (fun H3 e3 => ⟨SqL.of (e3 _ _ (et _ _ hp')), SqL.of (e3 _ _ (e2 _ _ g2))⟩) (fun n x2 H3 H4 C hi3 e3 y3 hC => ?_) (fun H3 e3 h3' => ?_)
    · obtain ⟨t3, u3, v3, rfl, ht3, rfl, hu3, hv3⟩ := y3
      cases (nvs_at (tab_at hi3)).symm.trans hu3
      cases (nvs_at (truthN_at hi3)).symm.trans hv3
      have e4 := exn (o := .tup [.int ((ansOf ((qs.take i).map (·.2)) n : Nat) : Int), .int (((if Vbenae.holds x.2 n = true then 1 else 0 : Nat)) : Int)]) ht3
      have hl6 : i < 6 := by rw [← hlq] at hi; omega
      refine ⟨t3, _, rfl, SqT.of upd_same, rfl, _, _, rfl, _, _, rfl, rfl, rfl, _, rfl, _, rfl, _, rfl, _, _, rfl, rfl, ⟨by omega, by omega, by split <;> decide⟩, _, _, rfl, rfl, ?_⟩
      have := hC _ e4
      rw [take_more hx, List.map_append] at this
      have ea2 := ansOf_snoc ((qs.take i).map (·.2)) x.2 n
      rw [List.length_map, List.length_take, Nat.min_eq_left (by rw [hlq]; omega)] at ea2
      have ea3 : ansOf ((qs.take i).map (·.2) ++ [x].map (·.2)) n = ansOf ((qs.take i).map (·.2)) n + (if Vbenae.holds x.2 n = true then 1 else 0) * 2 ^ i := ea2
      rw [ea3] at this
      have e5 : ((ansOf ((qs.take i).map (·.2)) n : Nat) : Int) + (((if Vbenae.holds x.2 n = true then 1 else 0 : Nat)) : Int) * 2 ^ ((i : Nat) : Int).toNat = ((ansOf ((qs.take i).map (·.2)) n + (if Vbenae.holds x.2 n = true then 1 else 0) * 2 ^ i : Nat) : Int) := by
        rw [Int.toNat_natCast, Int.natCast_add, Int.natCast_mul, Int.natCast_pow] <;> rfl
      exact qi (Q := C) e5 this
    · refine ⟨D, _, _, rfl, ext e2 e3, frb e2 hD, ?_⟩
      rw [h3', nvs_tab]
  · rintro σ H' ⟨pl, u, v, rfl, e, hn, hp'⟩
    rw [← hlq, List.take_length] at hp'
    exact ⟨_, rfl, q _ _ e hn hp'⟩
/-- some notching is answered otherwise when the mark is changed -/
def hangs (k : Nat) (a : Ask) (m : Nat) : Bool := (List.range (2 ^ k)).any fun n => Vbenae.holds a (flip n m) != Vbenae.holds a n
theorem flip_lt {n m k : Nat} (hn : n < 2 ^ k) (hm : m < k) : flip n m < 2 ^ k := by
  unfold flip
  split
  · exact Nat.lt_of_le_of_lt (Nat.sub_le _ _) hn
  · rename_i h
    have hN : 0 < 2 ^ m := Nat.pow_pos (by decide)
    have ⟨M, hM⟩ : ∃ M, 2 ^ k = 2 ^ m * (2 * M) := ⟨2 ^ (k - m - 1), by rw [← Nat.pow_succ', ← Nat.pow_add]; congr 1; omega⟩
    rw [hM] at hn ⊢
    have hq : n / 2 ^ m < 2 * M := by
      rw [Nat.div_lt_iff_lt_mul hN, Nat.mul_comm]
      exact hn
    have hev : n / 2 ^ m % 2 = 0 := by
      unfold Vbenae.notched at h
      have h2 : ¬ n / 2 ^ m % 2 = 1 := by simpa using h
      omega
    have hd := Nat.div_add_mod n (2 ^ m)
    have hr := Nat.mod_lt n hN
    have h5 : n / 2 ^ m + 2 ≤ 2 * M := by omega
    have h6 : 2 ^ m * (n / 2 ^ m + 2) ≤ 2 ^ m * (2 * M) := Nat.mul_le_mul_left _ h5
    rw [Nat.mul_add] at h6
    omega
def sp_hangs_on : Sp := fun vs H Q _ => ∃ ms x v, ∃ m : Nat, vs = [v, .int m] ∧ QuesAt H ms x v ∧ ms.length ≤ 6 ∧ m < ms.length ∧ ∀ H', Ex H H' → Q (.bl (hangs ms.length x.2 m)) H'
theorem sc_hangs_on : FnScope ["question", "mark", "notching", "holds"] ["question", "mark"] (defScope s_hangs_on) := C8.fnScope_by (by decide +kernel)
theorem c_hangs_on (T : Tx K mg) : Cal P w K mg base CX0 1 "hangs_on" a_hangs_on sp_hangs_on := by
  obtain ⟨fd, F⟩ := T.d_hangs_on
  refine ⟨⟨fd, ["question", "mark"], F.ok sc_hangs_on (fun vs H Q E h => by obtain ⟨ms, x, v, m, rfl, _⟩ := h; rfl) (fun cdv A outer s H vs Q E hr h => ⟨_, pss_cons (ps_for PassesOwn.never rfl (pi_enum rfl T.f_enumerate (pa_cons (pe_fld (pv 0) rfl) pa_nil)) (pg_tup rfl (pgs_cons (pg_name (i := 2) sc_hangs_on.nd rfl (Or.inl rfl)) (pgs_cons (pg_name (i := 3) sc_hangs_on.nd rfl (Or.inl rfl)) pgs_nil)))
    (pss_one (ps_if (pt_cmpR op_ne (pe_ix ix_list (pe_fld (pv 0) rfl) (pe_op op_xor (pv 2) (pe_op op_shl pe_int (pv 1))) (fun _ _ => rfl)) (pv 3) (nomark _)) (pss_one (ps_ret pe_bl)) pss_nil)))
    (pss_one (ps_ret pe_bl)), ?_⟩), F.binds fun _ _ _ _ _ _ us hl => match us, hl with | [_, _], _ => rfl⟩, T.g_hangs_on, F.kp⟩
  obtain ⟨ms, x, v, m, rfl, ⟨qa, qd, qt, rfl, g1, g2⟩, wm, hm, q⟩ := h
  have hk := pow6 wm
  refine ⟨_, rfl, qa, _, qd, _, _, rfl, g1, T.cl_Question, T.na_Question_truth, rfl, qt, _, rfl, SqL.of g2, ?_⟩
  have len : (nvs (truthN ms.length x.2)).length = 2 ^ ms.length := by rw [nvs_len, truthN_len]
  refine for_it (walk_enum (K := K) (a := qt) (xs := nvs (truthN ms.length x.2))) (fun i σ H' => ∃ u v, σ = [some (.ref qa), some (.int m), u, v] ∧ Ex H H' ∧ ∀ n, n < i → Vbenae.holds x.2 (flip n m) = Vbenae.holds x.2 n)
    ⟨_, _, rfl, exr, fun n h => by omega⟩ (fun i σ H' _ ⟨_, _, _, e, _⟩ => SqL.of (e _ _ g2)) ?_ ?_
  · rintro i y σ H' H2 hi ⟨u, v, rfl, e, hno⟩ ⟨t, u1, v1, rfl, ht, rfl, hu, hv⟩
    cases hu
    rw [len] at hi
    cases (nvs_at (truthN_at hi)).symm.trans hv
    have et := exn (o := .tup [.int (i : Nat), .int (((if Vbenae.holds x.2 i = true then 1 else 0 : Nat)) : Int)]) ht
    have e2 := ext e et
    have hfl := flip_lt hi hm
    refine ⟨t, _, rfl, SqT.of upd_same, rfl, _, _, rfl, _, _, rfl, rfl, ?_⟩
    have ex : Builtin.bitXor ((i : Nat) : Int) (1 * 2 ^ ((m : Nat) : Int).toNat) = ((flip i m : Nat) : Int) := by
      rw [Int.one_mul, Int.toNat_natCast, ← xor_flip, Int.natCast_pow] <;> rfl
    refine ⟨_, rfl, qa, _, qd, _, _, rfl, e2 _ _ g1, T.cl_Question, T.na_Question_truth, rfl, _, rfl, _, rfl, _, _, rfl, rfl, ⟨by omega, by omega, by decide⟩, _, _, rfl, rfl, _, _, _, _, rfl, rfl, SqL.of (e2 _ _ g2), by rw [ex]; exact atI_nat (nvs_at (truthN_at hfl)), _, rfl, rfl, _, rfl, ?_⟩
    by_cases c : Vbenae.holds x.2 (flip i m) = Vbenae.holds x.2 i
    · refine iteNS (by rw [c]) ⟨_, _, rfl, e2, fun n hn => ?_⟩
      by_cases hni : n = i
      · rw [hni]; exact c
      · exact hno n (by omega)
    · have cd : ¬ (V.int (((if Vbenae.holds x.2 (flip i m) = true then 1 else 0 : Nat)) : Int) = V.int (((if Vbenae.holds x.2 i = true then 1 else 0 : Nat)) : Int)) := fun z => by
        have z2 := V.int.inj z
        cases h1 : Vbenae.holds x.2 (flip i m) <;> cases h2 : Vbenae.holds x.2 i <;> simp [h1, h2] at c z2
      rw [decide_eq_false cd]
      refine iteT ?_
      refine qb (Q := Q) ?_ (q _ e2)
      symm
      exact List.any_eq_true.mpr ⟨i, List.mem_range.mpr hi, by simpa using c⟩
  · rintro σ H' ⟨u, v, rfl, e, hno⟩
    rw [len] at hno
    refine qb (Q := Q) ?_ (q _ e)
    symm
    exact Bool.eq_false_iff.mpr fun z => by
      obtain ⟨n, hn, hd⟩ := List.any_eq_true.mp z
      have := hno n (List.mem_range.mp hn)
      rw [this] at hd
      simp at hd
def sp_hung_on : Sp := fun vs H Q _ => ∃ a f x v, vs = [.ref a, v] ∧ FileAt H a f ∧ f.marks.length ≤ 6 ∧ QuesAt H f.marks x v ∧ NewNums H ((List.range f.marks.length).filter (hangs f.marks.length x.2)) Q
theorem sc_hung_on : FnScope ["card_file", "question", "mark"] ["card_file", "question"] (defScope s_hung_on) := C8.fnScope_by (by decide +kernel)
theorem c_hung_on (T : Tx K mg) : Cal P w K mg base CX0 2 "hung_on" a_hung_on sp_hung_on := by
  obtain ⟨fd, F⟩ := T.d_hung_on
  refine ⟨⟨fd, ["card_file", "question"], F.ok sc_hung_on (fun vs H Q E h => by obtain ⟨a, f, x, v, rfl, _⟩ := h; rfl) (fun cdv A outer s H vs Q E hr h => ⟨_, pss_one (ps_ret (by exact (pe_lc (own := [("mark", 2)]) (g := gName 2) rfl sc_hung_on.nd (pi_range1 rfl T.f_range (pa_cons (pe_callB call_len rfl T.f_len PySem.boot_len (pa_cons (pe_fld (pv 0) rfl) pa_nil)) pa_nil)) (blkOk_by (own := [("mark", 2)]) (N := ["card_file", "question", "mark"]) (sc := defScope s_hung_on) (by decide +kernel)) (fun _ _ _ _ _ => by exact (pg_name (i := 2) sc_hung_on.nd rfl (Or.inl rfl))) (fun _ _ _ _ _ => by exact (pts_one (pt_val (pe_f (c_hangs_on T) hr (by decide) rfl (pa_cons (pv 1) (pa_cons (pv 2) pa_nil)))))) (fun _ _ _ _ _ => by exact (pv 2))))), ?_⟩), F.binds fun _ _ _ _ _ _ us hl => match us, hl with | [_, _], _ => rfl⟩, T.g_hung_on, F.kp⟩
  obtain ⟨a, f, x, v, rfl, hf, wm, hv, q⟩ := h
  obtain ⟨dx, m, l, qq, ys, zs, h1, h2, h3, h4, h5, h6⟩ := id hf
  have hl : (f.marks.map tx).length = f.marks.length := List.length_map ..
  refine ⟨_, rfl, a, _, dx, _, _, rfl, h1, T.cl_CardFile, T.na_CardFile_marks, rfl, _, _, rfl, .inl ⟨_, SqL.of h2, rfl⟩, _, rfl, by omega, by omega, fun D hD => ?_⟩
  rw [hl, Int.toNat_natCast]
  refine lc_val (walk_range (lo := 0) (n := f.marks.length)) (fun i => if hangs f.marks.length x.2 i = true then some (V.int (i : Nat)) else none) (by omega) hD (fun _ _ => trivial) (fun i u H2 H' C C0 hi e2 y hC hC0 => ?_) (fun H2 e2 h2' => ?_)
  · obtain ⟨rfl, rfl⟩ := y
    refine ⟨rfl, _, rfl, _, rfl, f.marks, x, v, i, ?_, hv.ex e2, wm, hi, fun H3 e3 => ⟨_, rfl, ?_⟩⟩
    · show [v, V.int (0 + (i : Int))] = [v, V.int i]
      rw [Int.zero_add]
    · cases hh : hangs f.marks.length x.2 i with
      | true =>
        refine iteT ⟨_, rfl, hC _ _ e3 ?_⟩
        show (if hangs f.marks.length x.2 i = true then some (V.int (i : Nat)) else none) = some (V.int (0 + (i : Int)))
        rw [hh, if_pos rfl, Int.zero_add]
      | false =>
        refine iteF (hC0 _ e3 ?_)
        show (if hangs f.marks.length x.2 i = true then some (V.int (i : Nat)) else none) = none
        rw [hh, if_neg Bool.false_ne_true]
  · rw [fm_filter] at h2'
    exact q _ _ e2 hD h2'
def DeskAt (H : Hp) (d : Addr) (f : File) : Prop := ∃ dx a, H d = some (.ins a_Desk dx [("card_file", .ref a)]) ∧ FileAt H a f
def sp_Desk : Sp := fun vs H Q _ => ∃ x dx, vs = [.ref x] ∧ H x = some (.ins a_Desk dx []) ∧ ∀ H1 a, Ex H H1 → FileAt H1 a Vbenae.start → Q .non (upd H1 x (.ins a_Desk dx [("card_file", .ref a)]))
theorem sc_Desk_init : FnScope ["self"] ["self"] (defScope s_Desk_init) := C8.fnScope_by (by decide +kernel)
theorem c_Desk_init (T : Tx K mg) : Mak P w K mg base 4 "Desk" a_Desk sp_Desk := by
  obtain ⟨fd, F⟩ := T.d_Desk_init
  refine ⟨⟨_, fd, ["self"], T.mk_Desk, F.ok sc_Desk_init (fun vs H Q E h => by obtain ⟨x, dx, rfl, _⟩ := h; rfl) (fun cdv A outer s H vs Q E hr h => ⟨_, pss_one (ps_fld (pv 0) (pe_f0 (c_empty_file T) hr (by decide) rfl) rfl), ?_⟩), F.binds fun _ _ _ _ _ _ us hl => match us, hl with | [_], _ => rfl⟩, T.g_Desk⟩
  obtain ⟨x, dx, rfl, hx, q⟩ := h
  refine ⟨rfl, fun H1 b e1 hb hf => ?_⟩
  exact ⟨_, rfl, x, _, dx, _, rfl, e1 _ _ hx, T.cl_Desk, T.na_Desk_card_file, (by show 0 < 1000; decide), q _ _ e1 hf⟩
end
end N
namespace NX
open PySem PySem.Spec PyProof.Rows L2 N
section
open Builtin Builtin.ObjectAttr
variable {prog : Program} {w : World} {A : Around} {E : Value → Shared → Prop} {R : Result → Shared → Prop} {hp : Heap} {g : Array GenState} {d : Drawn} {t : Nat} {os : OsState} {K : W.Frag} {name : Str} {tk : Tok} {v : Value} {x C D : Addr} {cd : ClassData}
theorem has_obj (hcd : W.clsIn K C = some cd) (hm : cd.mro = .ref C :: .ref D :: tailE) : W.mroIn K C (.type "object") = some true := by
  have c : (Value.ref C :: .ref D :: tailE).contains (.type "object") = true := by
    rw [List.contains_cons, List.contains_cons]
    have : tailE.contains (.type "object") = true := by decide +kernel
    rw [this, Bool.or_true, Bool.or_true]
  unfold W.mroIn
  rw [hcd, Option.bind_some, hm]
  show (if (Value.ref C :: .ref D :: tailE).isEmpty = true then none else some ((Value.ref C :: .ref D :: tailE).contains (.type "object"))) = some true
  rw [c] <;> rfl
/-- self.name = v comes to the own dict -/
theorem to_dict {ox : Obj} {od : Option Obj} (KI : K.In hp) (IA : W.InstAt hp x ox C od) (hcd : W.clsIn K C = some cd) (hm : cd.mro = .ref C :: .ref D :: tailE) (ha : W.findIn K (.ref C) name = some none)
    (hq : wpAny (model prog w) A.in1 (storeInOwnDict (.ref x) (.ref C) (.str name tk) name v false)
      (fun fin s' => match fin with
        | .done f => R (.ok f) s'
        | .again c' => c'.quiet = true ∧ codeAny (model prog w) A c' R s') (fun e s' => R (.error e) s') ⟨hp, g, d, t, os⟩) :
    codeAny (model prog w) A (.call (.builtin "object.__setattr__") ⟨[.ref x, .str name tk, v], []⟩) R ⟨hp, g, d, t, os⟩ := by
  have S := F.store_object
  have isO : W.Looks (model prog w) hp (isInstance (.ref x) (.type "object")) true := IA.type.andThen (W.looks_mroIn KI (has_obj hcd hm))
  refine codeAny_call_builtin S.slot.plain S.entry ?_
  refine @W.check_slot (model prog w) _ _ ⟨hp, g, d, t, os⟩ "object.__setattr__" "object" "__setattr__" (.ref x) [.str name tk, v] [] _ S.kind S.split isO (S.args (.ref x) (.str name tk) v) ?_
  have lm : W.Looks (model prog w) hp (mroOf (.ref C)) cd.mro := (W.looks_clsIn KI hcd).andThen .now
  have ln : W.Looks (model prog w) hp (storeTaker? none) none := .now
  have pass : refuseLoop (.ref x) "__setattr__" cd.mro = pure () := by
    rw [hm, refuseLoop_ref, refuseLoop_ref]
    exact F.store_Exception.passes _
  rw [W.osa_eq, refuse_eq]
  refine wpAny_bind (wpAny_bind (IA.type.at (wpAny_bind (lm.at ?_))))
  rw [pass]
  exact wpAny_pure (wpAny_bind (IA.type.at (wpAny_bind ((W.looks_findIn KI ha).at (wpAny_bind (ln.at hq))))))
theorem to_new {fv : Array Value} (KI : K.In hp) (hx : hp.get? x = some { cls := .ref C, data := .fields fv }) (hcd : W.clsIn K C = some cd) (hm : cd.mro = .ref C :: .ref D :: tailE) (hh : cd.hasDict = true) (ha : W.findIn K (.ref C) name = some none)
    (hq : ∀ h1 tk1 dx, (∀ b o, b ≠ x → hp.get? b = some o → h1.get? b = some o) → hp.objs.size ≤ dx → dx ≠ x → h1.get? x = some { cls := .ref C, dict := some dx, data := .fields fv } → h1.Ns1 dx (fun y => if y = name then some v else none) → R (.ok (.ret .none)) ⟨h1, g, d, tk1, os⟩) :
    codeAny (model prog w) A (.call (.builtin "object.__setattr__") ⟨[.ref x, .str name tk, v], []⟩) R ⟨hp, g, d, t, os⟩ := by
  have IA : W.InstAt hp x { cls := .ref C, data := .fields fv } C none := ⟨hx, rfl, rfl, trivial⟩
  have xs : x ≠ hp.objs.size := Nat.ne_of_lt (Heap.lt_size hx)
  refine to_dict KI IA hcd hm ha ?_
  have lc : W.Looks (model prog w) hp (classData C) cd := W.looks_clsIn KI hcd
  obtain ⟨nm, bs, mro, ns, qn, hd, sn, sb, ab, col, del⟩ := cd
  dsimp only at hh
  subst hh
  unfold storeInOwnDict ownDictForStores
  repeat (first | with_reducible refine HandSPX.store_in_new ?_ ?_ | with_reducible refine wpAny_loadPart_at hx ?_ | with_reducible refine lc.at ?_ | wp_step)
  · exact ⟨_, #[], _, (Heap.get?_update_ne _ _ _ _ xs.symm).trans (Heap.get?_push_at rfl rfl), rfl, fun e he => absurd he (by simp), fun _ => rfl⟩
  · intro h1 tk1 n1 sb
    have hx1 : (hp.push { cls := .type "dict", data := .dict #[] }).get? x = some { cls := .ref C, data := .fields fv } := Heap.get?_push_of_some _ hx
    refine hq h1 tk1 hp.objs.size (fun b o nb ob => ?_) (Nat.le_refl _) xs.symm ((sb.2 x xs).trans (Heap.get?_update_self _ hx1 rfl)) n1
    exact (sb.2 b (Nat.ne_of_lt (Heap.lt_size ob))).trans ((Heap.get?_update_ne _ _ _ _ nb).trans (Heap.get?_push_of_some _ ob))
theorem to_old {dx : Addr} {fv : Array Value} {m0 : Str → Option Value} {nl : List Str} (KI : K.In hp) (hx : hp.get? x = some { cls := .ref C, dict := some dx, data := .fields fv }) (hns : hp.Ns1 dx m0) (hw : Within m0 nl) (hz : nl.length ≤ 1000)
    (hcd : W.clsIn K C = some cd) (hm : cd.mro = .ref C :: .ref D :: tailE) (hh : cd.hasDict = true) (ha : W.findIn K (.ref C) name = some none)
    (hq : ∀ h1 tk1, (∀ b o, b ≠ dx → hp.get? b = some o → h1.get? b = some o) → h1.Ns1 dx (fun y => if y = name then some v else m0 y) → R (.ok (.ret .none)) ⟨h1, g, d, tk1, os⟩) :
    codeAny (model prog w) A (.call (.builtin "object.__setattr__") ⟨[.ref x, .str name tk, v], []⟩) R ⟨hp, g, d, t, os⟩ := by
  obtain ⟨oD, _, _, hoD, _, _⟩ := hns.count hw
  have IA : W.InstAt hp x { cls := .ref C, dict := some dx, data := .fields fv } C (some oD) := ⟨hx, rfl, rfl, hoD⟩
  refine to_dict KI IA hcd hm ha ?_
  have lc : W.Looks (model prog w) hp (classData C) cd := W.looks_clsIn KI hcd
  obtain ⟨nm, bs, mro, ns, qn, hd, sn, sb, ab, col, del⟩ := cd
  dsimp only at hh
  subst hh
  unfold storeInOwnDict ownDictForStores
  repeat (first | with_reducible refine PySem.OEX.store_in_old hns hw hz ?_ | with_reducible refine wpAny_loadPart_at hx ?_ | with_reducible refine lc.at ?_ | wp_step)
  intro h1 tk1 n1 sb
  exact hq h1 tk1 (fun b o nb ob => (sb.2 b nb).trans ob) n1
end
end NX
namespace NX
open PySem PySem.Spec PyProof.Rows L2 N
section
variable {X : Cx} {pins : List (Addr × Obj)} {σ : L2.St} {H : Hp} {s : Shared} {a C fI dx : Addr} {x f : Str} {y : V} {u : Value} {fs : List (Str × V)} {Q : Unit → Shared → Prop} {E : Value → Shared → Prop} {A : Around}
theorem clsOf (T : OxC X.K X.mg x C fI) : ∃ cd, PySem.W.clsIn X.K C = some cd ∧ cd.mro = .ref C :: .ref a_Refusal :: tailE ∧ cd.hasDict = true := by
  obtain ⟨nm, q, ns, bs, sn, sub, ab, col, dd, k0, k1, k2, k3, k5, hC⟩ := T.cls
  refine ⟨{ name := nm, bases := bs, mro := .ref C :: .ref a_Refusal :: tailE, ns := ns, qualname := q, hasDict := true, slotNames := sn, subclasses := sub, abstract := ab, collection := col, hasDel := false }, ?_, rfl, rfl⟩
  unfold PySem.W.clsIn
  rw [hC] <;> rfl
/-- the first field of an error that is being made -/
theorem put_first (T : OxC X.K X.mg x C fI) (I : Inv X pins σ H s) (e : H a = some (exo a C none)) (hno : PySem.W.findIn X.K (.ref C) f = some none) (ry : RelV y u)
    (k : ∀ dx s1, H dx = none → dx ≠ a → Inv X pins σ (upd (upd H dx (exd dx [(f, y)])) a (exo a C (some dx))) s1 → Q () s1) : wpAny (model X.prog X.w) A (setAttr (.ref a) f u) Q E s := by
  obtain ⟨cd, hcd, hm, hh⟩ := clsOf T
  obtain ⟨t1, ho⟩ := exo_at I.hok e
  obtain ⟨hp, gg, dr, tt, os⟩ := s
  refine PySem.W.set_plain I.kIn (ox := { cls := .ref C, dict := none, data := .fields #[.ref t1, .none, .none, .none, .bool false, .none] }) (od := none) ⟨ho, rfl, rfl, trivial⟩ T.sa (to_new I.kIn ho hcd hm hh hno fun h1 tk1 dx kp big dne hx hn => ?_)
  have fresh : H dx = none := I.hok.fresh big
  have old : ∀ {b : Addr} {o : Obj}, hp.get? b = some o → b ≠ dx := fun {b o} z => Nat.ne_of_lt (Nat.lt_of_lt_of_le (Heap.lt_size z) big)
  have notA : ∀ {b : Addr}, H b = none → b ≠ a := fun {b} n z => by rw [z, e] at n; cases n
  have U : Un X.fs [] H (upd (upd H dx (exd dx [(f, y)])) a (exo a C (some dx))) hp h1 :=
    ⟨fun b o z n _ _ => kp b o (notA n) z, fun b o z n _ _ => ⟨o.slots, kp b o (notA n) z⟩, fun b o z n _ => by rw [upd_ne (notA n), upd_ne (old z)]; exact n,
      fun b o z _ => if hb : b = a then ⟨_, (congrArg h1.get? hb).trans hx⟩ else ⟨o, kp b o hb z⟩,
      fun b xs z => by rw [upd_ne (at_ne e z exo_tup), upd_ne (ne_of_none z fresh)]; exact z,
      fun b o v z => by rw [upd_ne (at_ne e z exo_frz), upd_ne (ne_of_none z fresh)]; exact z,
      fun b ps z => ⟨#[], by rw [upd_ne (at_ne e z exo_tbl), upd_ne (ne_of_none z fresh), z]; simp⟩⟩
  refine k dx _ fresh dne (I.un (t' := tk1) U fun b o z => ?_)
  by_cases hb : b = a
  · subst hb
    rw [upd_same] at z
    cases z
    exact exo_ok hx
  by_cases hd : b = dx
  · subst hd
    rw [upd_ne hb, upd_same] at z
    cases z
    exact exd_ok hn (relO_put (fs := []) ry fun _ => True.intro)
  rw [upd_ne hb, upd_ne hd] at z
  refine (I.hok b o z).stay (fun c v hc zz => kp c v ?_ zz) (fun c hc => ?_) (fun c xs hc => ?_)
  · rcases hc with rfl | hc
    · exact hb
    · exact at_ne e hc exo_own
  · rw [upd_ne (at_ne e hc exo_own), upd_ne (ne_of_none hc fresh)]; exact hc
  · rw [upd_ne (at_ne e hc exo_tup), upd_ne (ne_of_none hc fresh)]; exact hc
/-- a further one -/
theorem put_more (T : OxC X.K X.mg x C fI) (I : Inv X pins σ H s) (e : H a = some (exo a C (some dx))) (ed : H dx = some (exd dx fs)) (hl : fs.length ≤ 900) (hno : PySem.W.findIn X.K (.ref C) f = some none) (ry : RelV y u)
    (k : ∀ s1, Inv X pins σ (upd H dx (exd dx ((f, y) :: fs))) s1 → Q () s1) : wpAny (model X.prog X.w) A (setAttr (.ref a) f u) Q E s := by
  obtain ⟨cd, hcd, hm, hh⟩ := clsOf T
  obtain ⟨t1, ho⟩ := exo_at I.hok e
  obtain ⟨mA, hns, rel⟩ := exd_at I.hok ed
  have wi := within_of rel
  obtain ⟨hp, gg, dr, tt, os⟩ := s
  obtain ⟨oD, _, _, hoD, _, _⟩ := hns.count wi
  refine PySem.W.set_plain I.kIn (ox := { cls := .ref C, dict := some dx, data := .fields #[.ref t1, .none, .none, .none, .bool false, .none] }) (od := some oD) ⟨ho, rfl, rfl, hoD⟩ T.sa
    (to_old I.kIn ho hns wi (by rw [List.length_map]; omega) hcd hm hh hno fun h1 tk1 kp hn => ?_)
  have there : ∃ o, h1.get? dx = some o := by
    obtain ⟨o, _, _, z, _⟩ := hn
    exact ⟨o, z⟩
  exact k _ (I.write (t' := tk1) (x := dx) (e := dx) (o := exd dx ((f, y) :: fs)) (by rw [ed]; exact True.intro) (.inl rfl) kp there (exd_ok hn (relO_put ry rel)))
end
/-! ### readings and rules -/
/-- self.f = e within an error's own __init__ -/
def tSelf (K : PySem.W.Frag) (mg : Str → Option Value) (f : Str) (to te : TE) : TS := fun D σ H => te σ H fun y H1 => to σ H1 fun z H2 => ∃ (x : Str) (a C fI : Addr), z = .ref a ∧ OxC K mg x C fI ∧ PySem.W.findIn K (.ref C) f = some none ∧
  ((H2 a = some (exo a C none) ∧ ∀ dx, H2 dx = none → dx ≠ a → D.nx σ (upd (upd H2 dx (exd dx [(f, y)])) a (exo a C (some dx)))) ∨
    ∃ (dx : Addr) (fs : List (Str × V)), H2 a = some (exo a C (some dx)) ∧ H2 dx = some (exd dx fs) ∧ fs.length ≤ 900 ∧ D.nx σ (upd H2 dx (exd dx ((f, y) :: fs))))
/-- C(..) of a refusal's class -/
def tRef (C : Addr) (sp : Sp) (ta : TA) : L2.St → Hp → XK → Prop := fun σ H Q => ta σ H fun vs H1 => vs.length ≤ 1000 ∧ ∀ a, H1 a = none → sp (.ref a :: vs) (upd H1 a (exo a C none))
  (fun v H2 => v = .non ∧ ∃ (d : Addr) (fs : List (Str × V)), H2 a = some (exo a C (some d)) ∧ H2 d = some (exd d fs) ∧ H1 d = none ∧ Q (.ref C) (some d) (upd (del H2 a) d (.xd fs))) (fun _ _ _ => False)
section
variable {X : Cx} {o e : Expr} {es : List Expr} {to te : TE} {ta : TA} {f x : Str} {p p' p1 p2 pos : Pos} {k j : Nat} {C fI : Addr} {sp : Sp}
theorem ps_self (ho : PE X o to) (he : PE X e te) (hs : swapsWith e (some (.Attribute o f p')) pos.line X.env = pure false := by rfl) : PS X (.Assign [.Attribute o f p'] e pos) (tSelf X.K X.mg f to te) := by
  refine ⟨fun pins s σ H D I h => ?_⟩
  refine plainObj_wpAny_Assign_Attribute (thn (he.run pins s σ H _ I h) fun v s1 ⟨y, H1, I1, r1, q1⟩ => ?_) hs
  refine thn (ho.run pins s1 σ H1 _ I1 q1) fun u s2 ⟨z, H2, I2, r2, x, a, C, fI, ez, T, hno, q⟩ => ?_
  subst ez
  obtain rfl : u = Value.ref a := r2
  rcases q with ⟨ea, q⟩ | ⟨dx, fs, ea, ed, hl, q⟩
  · exact put_first T I2 ea hno r1 fun dx s3 n ne J => ⟨σ, _, J, q dx n ne⟩
  · exact put_more T I2 ea ed hl hno r1 fun s3 J => ⟨σ, _, J, q⟩
/-- Refusal.__init__(e, ..) -/
theorem pe_ri {pl : Sem Bool} {fd : FuncData} {ps : List Str} (T : RefC X.K X.mg) (G : FnOk X.prog X.w X.K X.mg X.base CX0 k a_Refusal_init fd ps sp) (b : Binds X.K fd ps []) (kp : PySem.W.keepIn X.K (.ref a_Refusal_init) = true) (hr : Room j X.A) (hk : k ≤ j) (hg : Gl X "Refusal") (ha : PA X (e :: es) ta)
    (hc : eval (.Call (.Attribute (.Name "Refusal" p1) "__init__" p2) (e :: es) [] pos) X.env = (do
      let ov ← eval (.Name "Refusal" p1) X.env
      standAt p2.atName
      let (f, first) ← holding [ov] (getMethod ov "__init__" pl)
      callWith pos f first (backTo pos (starEach (e :: es) X.env)) (backToKw pos (keywordEach [] X.env))) := by rfl)
    (he : starEach (e :: es) X.env = (false, eval e X.env) :: starEach es X.env := by rfl) (hpl : (backTo pos (starEach es X.env)).any (·.1) = false := by rfl) :
    PE X (.Call (.Attribute (.Name "Refusal" p1) "__init__" p2) (e :: es) [] pos) (tCall sp [] E0 ta) := by
  refine ⟨fun pins s σ H Q I h => ?_⟩
  refine PySem.W.methodCall_KW (ld_glob I hg T.gR ?_) hc
  refine PySem.W.method_cls I.kIn T.ga (PySem.W.cls_value I.kIn T.rd T.fc rfl ?_)
  have I0 := I.tok (s.toks + 1)
  refine PySem.W.callWith_K (h₀ := X.base) I.ok.mod.kin kp (thn (ha.run pos pins _ σ H _ I0 h) fun us s1 ⟨vs, H1, I1, r, q⟩ => ⟨I1.kIn, ?_⟩) he hpl
  exact run_fn G (hr.mono hk) b .nil pass0 I1 r q
theorem mk_run {fd : FuncData} {ps : List Str} {pins : List (Addr × Obj)} {s1 : Shared} {σ : L2.St} {H1 : Hp} {Q : XK} {us : List Value} {vs : List V} (T : OxC X.K X.mg x C fI) (G : FnOk X.prog X.w X.K X.mg X.base CX0 k fI fd ps sp) (hr : Room (k + 1) X.A) (hb : Binds X.K fd ps [])
    (I1 : Inv X pins σ H1 s1) (r1 : Vals vs us) (hz : vs.length ≤ 1000) (q1 : ∀ a, H1 a = none → sp (.ref a :: vs) (upd H1 a (exo a C none))
      (fun v H2 => v = .non ∧ ∃ (d : Addr) (fs : List (Str × V)), H2 a = some (exo a C (some d)) ∧ H2 d = some (exd d fs) ∧ H1 d = none ∧ Q (.ref C) (some d) (upd (del H2 a) d (.xd fs))) (fun _ _ _ => False)) :
    wpAny (model X.prog X.w) X.A (call (.ref C) us) (MkP X pins σ Q) X.xe s1 := by
  obtain ⟨nm, q, ns, bs, sn, sub, ab, col, dd, k0, k1, k2, k3, k5, hC⟩ := T.cls
  obtain ⟨hp, gg, dr, tk, os⟩ := s1
  have big : hp.objs.size ≤ hp.objs.size + 1 := Nat.le_succ _
  have hq := q1 (hp.objs.size + 1) (I1.hok.fresh big)
  have kp : ∀ b ob, hp.get? b = some ob → ((hp.push (PySem.W.kdv_tup us)).push (PySem.HandSPX.excO C hp.objs.size)).get? b = some ob := fun b ob z => Heap.get?_push_of_some _ (Heap.get?_push_of_some _ z)
  have here : ((hp.push (PySem.W.kdv_tup us)).push (PySem.HandSPX.excO C hp.objs.size)).get? (hp.objs.size + 1) = some (PySem.HandSPX.excO C hp.objs.size) := by heap_get
  have I2 : Inv X pins σ (upd H1 (hp.objs.size + 1) (exo (hp.objs.size + 1) C none)) ⟨(hp.push (PySem.W.kdv_tup us)).push (PySem.HandSPX.excO C hp.objs.size), gg, dr, tk, os⟩ := I1.laid (t' := tk) kp big (exo_ok here)
  have r2 : Vals (V.ref (hp.objs.size + 1) :: vs) (Value.ref (hp.objs.size + 1) :: us) := .cons rfl r1
  have hl : (Value.ref (hp.objs.size + 1) :: us ++ []).length = ps.length := by
    have z := r2.length
    rw [G.len _ _ _ _ hq] at z
    rw [List.append_nil]
    exact z.symm
  have hus : us.length ≤ sizeLine := by
    rw [← Paired.length r1, sizeLine_eq]
    omega
  have bnd := hb ⟨(hp.push (PySem.W.kdv_tup us)).push (PySem.HandSPX.excO C hp.objs.size), gg, dr, tk, os⟩ (Value.ref (hp.objs.size + 1) :: us) I2.kIn hl
  rw [List.append_nil] at bnd
  have tl : ∀ Y : String, (Value.ref a_Refusal :: tailE).contains (.type Y) = tailE.contains (.type Y) := fun Y => by rw [List.contains_cons] <;> rfl
  refine wpAny_call (PySem.HandSPX.call_own F.excBase_Exception tl (I1.kIn _ _ hC) (PySem.W.looks_findIn I1.kIn T.iC) (fun self => PySem.W.bind_fn I1.kIn self T.tI) hus ?_)
  refine codeAny_mono (G.run _ X.stack _ _ ⟨Value.ref (hp.objs.size + 1) :: us, []⟩ (Value.ref (hp.objs.size + 1) :: us) _ _ (fun _ _ _ => False) (hr.make C us []) (I2.env0.make C us []) bnd r2 hq) fun r s2 z => ?_
  cases r with
  | error er => exact z.elim
  | ok fl =>
    cases fl with
    | ret u =>
      obtain ⟨v, H2, os2, bare2, un2, hok2, rv, ev, d, fs, ea, ed, hd1, q2⟩ := z
      subst ev
      obtain ⟨h2, g2, d2, t2, os3⟩ := s2
      exact ⟨rv, mk_end (raises_own T.exC T.tyC) I1 big kp un2 hok2 os2 bare2 ea ed hd1 q2⟩
    | next => exact False.elim z
    | brk => exact False.elim z
    | cont => exact False.elim z
theorem pmk_r {fd : FuncData} {ps : List Str} (T : OxC X.K X.mg x C fI) (G : FnOk X.prog X.w X.K X.mg X.base CX0 k fI fd ps sp) (hr : Room (k + 1) X.A) (hb : Binds X.K fd ps []) (hg : Gl X x) (ha : PA X (e :: es) ta)
    (hdb : (x == ("__debug__" : Str)) = false := by decide) (he : starEach (e :: es) X.env = (false, eval e X.env) :: starEach es X.env := by rfl) (hpl : (backTo pos (starEach es X.env)).any (·.1) = false := by rfl) :
    PMk X (.Call (.Name x p) (e :: es) [] pos) (tRef C sp ta) := by
  intro pins s σ H Q I h
  refine wpAny_Call_Name_kw (ld_glob I hg T.gC ?_ hdb)
  refine PySem.W.callWith_K (h₀ := X.base) I.ok.mod.kin T.kC (thn (ha.run pos pins s σ H _ I h) fun us s1 ⟨vs, H1, I1, r1, hz, q1⟩ => ⟨I1.kIn, ?_⟩) he hpl
  exact mk_run T G hr hb I1 r1 hz q1
theorem pmk_r0 {fd : FuncData} {ps : List Str} (T : OxC X.K X.mg x C fI) (G : FnOk X.prog X.w X.K X.mg X.base CX0 k fI fd ps sp) (hr : Room (k + 1) X.A) (hb : Binds X.K fd ps []) (hg : Gl X x)
    (hdb : (x == ("__debug__" : Str)) = false := by decide) : PMk X (.Call (.Name x p) [] [] pos) (tRef C sp tNil) := by
  intro pins s σ H Q I h
  refine wpAny_Call_Name_kw (ld_glob I hg T.gC ?_ hdb)
  exact PySem.W.callWith_K0 I.kIn T.kC (mk_run (us := []) T G hr hb I .nil h.1 h.2)
end
end NX
namespace NX
open PySem PySem.Spec PyProof.Rows L2 N
/-- an error's own dict is laid -/
theorem PS_imp {X : Cx} {st : Stmt} {t t' : TS} (h : PS X st t) (i : ∀ D σ H, t' D σ H → t D σ H) : PS X st t' := ⟨fun pins s σ H D I z => h.run pins s σ H D I (i D σ H z)⟩
theorem let_go {H : Hp} {a d C : Addr} {fs gs : List (Str × V)} (ha : H a = none) (hne : d ≠ a) : upd (del (upd (upd (upd H a (exo a C none)) d (exd d fs)) a (exo a C (some d))) a) d (.xd gs) = upd H d (.xd gs) := by
  funext b
  by_cases hb : b = d
  · rw [hb, upd_same, upd_same]
  · rw [upd_ne hb, upd_ne hb]
    by_cases hc : b = a
    · rw [hc, del_same, ha]
    · rw [del_ne hc, upd_ne hc, upd_ne hb, upd_ne hc]
def sp_ref (K : PySem.W.Frag) (mg : Str → Option Value) : Sp := fun vs H Q _ => ∃ (a C fI : Addr) (x : Str) (v : V), vs = [.ref a, v] ∧ OxC K mg x C fI ∧ H a = some (exo a C none) ∧ ∀ dx, H dx = none → dx ≠ a → Q .non (upd (upd H dx (exd dx [("number", v)])) a (exo a C (some dx)))
/-- an __init__ that tells its number -/
def sp_num (C : Addr) (n : Int) : Sp := fun vs H Q _ => ∃ a : Addr, vs = [.ref a] ∧ H a = some (exo a C none) ∧ ∀ dx, H dx = none → dx ≠ a → Q .non (upd (upd H dx (exd dx [("number", .int n)])) a (exo a C (some dx)))
section
variable {P : Program} {w : World} {K : PySem.W.Frag} {mg : Str → Option Value} {base : Heap}
theorem sc_Refusal_init : FnScope ["self", "number"] ["self", "number"] (defScope s_Refusal_init) := C8.fnScope_by (by decide +kernel)
theorem ok_ref (T : RefC K mg) : ∃ fd, FnOk P w K mg base CX0 1 a_Refusal_init fd ["self", "number"] (sp_ref K mg) ∧ Binds K fd ["self", "number"] [] ∧ PySem.W.keepIn K (.ref a_Refusal_init) = true := by
  obtain ⟨fd, F⟩ := T.fn
  refine ⟨fd, F.ok sc_Refusal_init (fun vs H Q E h => by obtain ⟨a, C, fI, x, v, rfl, _⟩ := h; rfl) (fun cdv A outer s H vs Q E hr h => ⟨_, pss_one (ps_self (pv 0) (pv 1)), ?_⟩), F.binds fun _ _ _ _ _ _ us hl => match us, hl with | [_, _], _ => rfl, F.kp⟩
  obtain ⟨a, C, fI, x, v, rfl, O, ha, q⟩ := h
  exact ⟨_, rfl, _, rfl, x, a, C, fI, rfl, O, O.nn, .inl ⟨ha, fun dx hd hn => q dx hd hn⟩⟩
/-- a refusal that may be raised by its name -/
structure Rz (P : Program) (w : World) (K : PySem.W.Frag) (mg : Str → Option Value) (base : Heap) (x : Str) (C : Addr) (n : Int) : Prop where
  ex : ∃ (fI : Addr) (fd : FuncData) (ps : List Str), OxC K mg x C fI ∧ FnOk P w K mg base CX0 2 fI fd ps (sp_num C n) ∧ Binds K fd ps []
theorem sc_NotText_init : FnScope ["self"] ["self"] (defScope s_NotText_init) := C8.fnScope_by (by decide +kernel)
theorem r_NotText (T : Tx K mg) : Rz P w K mg base "NotText" a_NotText (-1) := by
  obtain ⟨fd, F⟩ := T.d_NotText_init
  obtain ⟨fd2, G, b, kp⟩ := ok_ref (P := P) (w := w) (base := base) T.x_ref
  refine ⟨_, fd, ["self"], T.x_NotText, F.ok sc_NotText_init (fun vs H Q E h => by obtain ⟨a, rfl, _⟩ := h; rfl) (fun cdv A outer s H vs Q E hr h => ⟨_, pss_one (ps_expr (pe_ri T.x_ref G b kp hr (by decide) rfl (pa_cons (pv 0) (pa_cons (pe_un un_neg pe_int) pa_nil)))), ?_⟩), F.binds fun _ _ _ _ _ _ us hl => match us, hl with | [_], _ => rfl⟩
  obtain ⟨a, rfl, ha, q⟩ := h
  exact ⟨_, rfl, _, rfl, a, a_NotText, a_NotText_init, "NotText", _, rfl, T.x_NotText, ha, fun dx hd hn => q dx hd hn⟩
theorem sc_NotInRange_init : FnScope ["self"] ["self"] (defScope s_NotInRange_init) := C8.fnScope_by (by decide +kernel)
theorem r_NotInRange (T : Tx K mg) : Rz P w K mg base "NotInRange" a_NotInRange (-3) := by
  obtain ⟨fd, F⟩ := T.d_NotInRange_init
  obtain ⟨fd2, G, b, kp⟩ := ok_ref (P := P) (w := w) (base := base) T.x_ref
  refine ⟨_, fd, ["self"], T.x_NotInRange, F.ok sc_NotInRange_init (fun vs H Q E h => by obtain ⟨a, rfl, _⟩ := h; rfl) (fun cdv A outer s H vs Q E hr h => ⟨_, pss_one (ps_expr (pe_ri T.x_ref G b kp hr (by decide) rfl (pa_cons (pv 0) (pa_cons (pe_un un_neg pe_int) pa_nil)))), ?_⟩), F.binds fun _ _ _ _ _ _ us hl => match us, hl with | [_], _ => rfl⟩
  obtain ⟨a, rfl, ha, q⟩ := h
  exact ⟨_, rfl, _, rfl, a, a_NotInRange, a_NotInRange_init, "NotInRange", _, rfl, T.x_NotInRange, ha, fun dx hd hn => q dx hd hn⟩
theorem sc_NotQuestions_init : FnScope ["self"] ["self"] (defScope s_NotQuestions_init) := C8.fnScope_by (by decide +kernel)
theorem r_NotQuestions (T : Tx K mg) : Rz P w K mg base "NotQuestions" a_NotQuestions (-4) := by
  obtain ⟨fd, F⟩ := T.d_NotQuestions_init
  obtain ⟨fd2, G, b, kp⟩ := ok_ref (P := P) (w := w) (base := base) T.x_ref
  refine ⟨_, fd, ["self"], T.x_NotQuestions, F.ok sc_NotQuestions_init (fun vs H Q E h => by obtain ⟨a, rfl, _⟩ := h; rfl) (fun cdv A outer s H vs Q E hr h => ⟨_, pss_one (ps_expr (pe_ri T.x_ref G b kp hr (by decide) rfl (pa_cons (pv 0) (pa_cons (pe_un un_neg pe_int) pa_nil)))), ?_⟩), F.binds fun _ _ _ _ _ _ us hl => match us, hl with | [_], _ => rfl⟩
  obtain ⟨a, rfl, ha, q⟩ := h
  exact ⟨_, rfl, _, rfl, a, a_NotQuestions, a_NotQuestions_init, "NotQuestions", _, rfl, T.x_NotQuestions, ha, fun dx hd hn => q dx hd hn⟩
theorem sc_NoQuestion_init : FnScope ["self"] ["self"] (defScope s_NoQuestion_init) := C8.fnScope_by (by decide +kernel)
theorem r_NoQuestion (T : Tx K mg) : Rz P w K mg base "NoQuestion" a_NoQuestion (-5) := by
  obtain ⟨fd, F⟩ := T.d_NoQuestion_init
  obtain ⟨fd2, G, b, kp⟩ := ok_ref (P := P) (w := w) (base := base) T.x_ref
  refine ⟨_, fd, ["self"], T.x_NoQuestion, F.ok sc_NoQuestion_init (fun vs H Q E h => by obtain ⟨a, rfl, _⟩ := h; rfl) (fun cdv A outer s H vs Q E hr h => ⟨_, pss_one (ps_expr (pe_ri T.x_ref G b kp hr (by decide) rfl (pa_cons (pv 0) (pa_cons (pe_un un_neg pe_int) pa_nil)))), ?_⟩), F.binds fun _ _ _ _ _ _ us hl => match us, hl with | [_], _ => rfl⟩
  obtain ⟨a, rfl, ha, q⟩ := h
  exact ⟨_, rfl, _, rfl, a, a_NoQuestion, a_NoQuestion_init, "NoQuestion", _, rfl, T.x_NoQuestion, ha, fun dx hd hn => q dx hd hn⟩
theorem sc_NoNotching_init : FnScope ["self"] ["self"] (defScope s_NoNotching_init) := C8.fnScope_by (by decide +kernel)
theorem r_NoNotching (T : Tx K mg) : Rz P w K mg base "NoNotching" a_NoNotching (-5) := by
  obtain ⟨fd, F⟩ := T.d_NoNotching_init
  obtain ⟨fd2, G, b, kp⟩ := ok_ref (P := P) (w := w) (base := base) T.x_ref
  refine ⟨_, fd, ["self"], T.x_NoNotching, F.ok sc_NoNotching_init (fun vs H Q E h => by obtain ⟨a, rfl, _⟩ := h; rfl) (fun cdv A outer s H vs Q E hr h => ⟨_, pss_one (ps_expr (pe_ri T.x_ref G b kp hr (by decide) rfl (pa_cons (pv 0) (pa_cons (pe_un un_neg pe_int) pa_nil)))), ?_⟩), F.binds fun _ _ _ _ _ _ us hl => match us, hl with | [_], _ => rfl⟩
  obtain ⟨a, rfl, ha, q⟩ := h
  exact ⟨_, rfl, _, rfl, a, a_NoNotching, a_NoNotching_init, "NoNotching", _, rfl, T.x_NoNotching, ha, fun dx hd hn => q dx hd hn⟩
theorem sc_NoCube_init : FnScope ["self"] ["self"] (defScope s_NoCube_init) := C8.fnScope_by (by decide +kernel)
theorem r_NoCube (T : Tx K mg) : Rz P w K mg base "NoCube" a_NoCube (-5) := by
  obtain ⟨fd, F⟩ := T.d_NoCube_init
  obtain ⟨fd2, G, b, kp⟩ := ok_ref (P := P) (w := w) (base := base) T.x_ref
  refine ⟨_, fd, ["self"], T.x_NoCube, F.ok sc_NoCube_init (fun vs H Q E h => by obtain ⟨a, rfl, _⟩ := h; rfl) (fun cdv A outer s H vs Q E hr h => ⟨_, pss_one (ps_expr (pe_ri T.x_ref G b kp hr (by decide) rfl (pa_cons (pv 0) (pa_cons (pe_un un_neg pe_int) pa_nil)))), ?_⟩), F.binds fun _ _ _ _ _ _ us hl => match us, hl with | [_], _ => rfl⟩
  obtain ⟨a, rfl, ha, q⟩ := h
  exact ⟨_, rfl, _, rfl, a, a_NoCube, a_NoCube_init, "NoCube", _, rfl, T.x_NoCube, ha, fun dx hd hn => q dx hd hn⟩
theorem sc_NotPlan_init : FnScope ["self"] ["self"] (defScope s_NotPlan_init) := C8.fnScope_by (by decide +kernel)
theorem r_NotPlan (T : Tx K mg) : Rz P w K mg base "NotPlan" a_NotPlan (-6) := by
  obtain ⟨fd, F⟩ := T.d_NotPlan_init
  obtain ⟨fd2, G, b, kp⟩ := ok_ref (P := P) (w := w) (base := base) T.x_ref
  refine ⟨_, fd, ["self"], T.x_NotPlan, F.ok sc_NotPlan_init (fun vs H Q E h => by obtain ⟨a, rfl, _⟩ := h; rfl) (fun cdv A outer s H vs Q E hr h => ⟨_, pss_one (ps_expr (pe_ri T.x_ref G b kp hr (by decide) rfl (pa_cons (pv 0) (pa_cons (pe_un un_neg pe_int) pa_nil)))), ?_⟩), F.binds fun _ _ _ _ _ _ us hl => match us, hl with | [_], _ => rfl⟩
  obtain ⟨a, rfl, ha, q⟩ := h
  exact ⟨_, rfl, _, rfl, a, a_NotPlan, a_NotPlan_init, "NotPlan", _, rfl, T.x_NotPlan, ha, fun dx hd hn => q dx hd hn⟩
theorem sc_NotLabels_init : FnScope ["self"] ["self"] (defScope s_NotLabels_init) := C8.fnScope_by (by decide +kernel)
theorem r_NotLabels (T : Tx K mg) : Rz P w K mg base "NotLabels" a_NotLabels (-6) := by
  obtain ⟨fd, F⟩ := T.d_NotLabels_init
  obtain ⟨fd2, G, b, kp⟩ := ok_ref (P := P) (w := w) (base := base) T.x_ref
  refine ⟨_, fd, ["self"], T.x_NotLabels, F.ok sc_NotLabels_init (fun vs H Q E h => by obtain ⟨a, rfl, _⟩ := h; rfl) (fun cdv A outer s H vs Q E hr h => ⟨_, pss_one (ps_expr (pe_ri T.x_ref G b kp hr (by decide) rfl (pa_cons (pv 0) (pa_cons (pe_un un_neg pe_int) pa_nil)))), ?_⟩), F.binds fun _ _ _ _ _ _ us hl => match us, hl with | [_], _ => rfl⟩
  obtain ⟨a, rfl, ha, q⟩ := h
  exact ⟨_, rfl, _, rfl, a, a_NotLabels, a_NotLabels_init, "NotLabels", _, rfl, T.x_NotLabels, ha, fun dx hd hn => q dx hd hn⟩
theorem sc_NoCards_init : FnScope ["self"] ["self"] (defScope s_NoCards_init) := C8.fnScope_by (by decide +kernel)
theorem r_NoCards (T : Tx K mg) : Rz P w K mg base "NoCards" a_NoCards (-7) := by
  obtain ⟨fd, F⟩ := T.d_NoCards_init
  obtain ⟨fd2, G, b, kp⟩ := ok_ref (P := P) (w := w) (base := base) T.x_ref
  refine ⟨_, fd, ["self"], T.x_NoCards, F.ok sc_NoCards_init (fun vs H Q E h => by obtain ⟨a, rfl, _⟩ := h; rfl) (fun cdv A outer s H vs Q E hr h => ⟨_, pss_one (ps_expr (pe_ri T.x_ref G b kp hr (by decide) rfl (pa_cons (pv 0) (pa_cons (pe_un un_neg pe_int) pa_nil)))), ?_⟩), F.binds fun _ _ _ _ _ _ us hl => match us, hl with | [_], _ => rfl⟩
  obtain ⟨a, rfl, ha, q⟩ := h
  exact ⟨_, rfl, _, rfl, a, a_NoCards, a_NoCards_init, "NoCards", _, rfl, T.x_NoCards, ha, fun dx hd hn => q dx hd hn⟩
def sp_tf : Sp := fun vs H Q _ => ∃ (a : Addr) (p : Int), vs = [.ref a, .int p] ∧ H a = some (exo a a_TextFault none) ∧
  ∀ dx, H dx = none → dx ≠ a → Q .non (upd (upd (upd H dx (exd dx [("number", .int (-1000 - p))])) a (exo a a_TextFault (some dx))) dx (exd dx [("place", .int p), ("number", .int (-1000 - p))]))
theorem sc_TextFault_init : FnScope ["self", "place"] ["self", "place"] (defScope s_TextFault_init) := C8.fnScope_by (by decide +kernel)
theorem ok_tf (T : Tx K mg) : ∃ fd, FnOk P w K mg base CX0 2 a_TextFault_init fd ["self", "place"] sp_tf ∧ Binds K fd ["self", "place"] [] := by
  obtain ⟨fd, F⟩ := T.d_TextFault_init
  obtain ⟨fd2, G, b, kp⟩ := ok_ref (P := P) (w := w) (base := base) T.x_ref
  refine ⟨fd, F.ok sc_TextFault_init (fun vs H Q E h => by obtain ⟨a, p, rfl, _⟩ := h; rfl) (fun cdv A outer s H vs Q E hr h => ⟨_, pss_cons (ps_expr (pe_ri T.x_ref G b kp hr (by decide) rfl (pa_cons (pv 0) (pa_cons (pe_op op_sub (pe_un un_neg pe_int) (pv 1)) pa_nil)))) (pss_one (ps_self (pv 0) (pv 1))), ?_⟩), F.binds fun _ _ _ _ _ _ us hl => match us, hl with | [_, _], _ => rfl⟩
  obtain ⟨a, p, rfl, ha, q⟩ := h
  refine ⟨_, rfl, _, rfl, _, rfl, _, _, rfl, rfl, a, a_TextFault, a_TextFault_init, "TextFault", _, rfl, T.x_TextFault, ha, fun dx hd hn => ?_⟩
  refine ⟨_, rfl, _, rfl, "TextFault", a, a_TextFault, a_TextFault_init, rfl, T.x_TextFault, T.x_TextFault.np, .inr ⟨dx, _, upd_same, (upd_ne hn).trans upd_same, (by show 1 ≤ 900; decide), ?_⟩⟩
  exact q dx hd hn
end
/-! ### raise -/
def tRz (C : Addr) (n : Int) (W : WX) : TS := fun _ σ H => ∀ d, H d = none → W (.ref C) (some d) σ (upd H d (.xd [("number", .int n)]))
def kRz (W : WX) (σ : L2.St) (v : V) (H1 : Hp) : Prop := ([v] : List V).length ≤ 1000 ∧ ∀ a, H1 a = none → sp_tf (.ref a :: [v]) (upd H1 a (exo a a_TextFault none))
  (fun u H2 => u = .non ∧ ∃ (d : Addr) (fs : List (Str × V)), H2 a = some (exo a a_TextFault (some d)) ∧ H2 d = some (exd d fs) ∧ H1 d = none ∧ W (.ref a_TextFault) (some d) σ (upd (del H2 a) d (.xd fs))) (fun _ _ _ => False)
def tRzP (W : WX) (te : TE) : TS := fun _ σ H => te σ H fun v H1 => kRz W σ v H1
section
variable {X : Cx} {x : Str} {C : Addr} {n : Int} {W : WX} {p pos pos2 : Pos} {j : Nat} {e : Expr} {te : TE}
theorem ps_rz (T : Rz X.prog X.w X.K X.mg X.base x C n) (hr : Room j X.A) (hk : 3 ≤ j) (hc : X.calm = true) (hg : Gl X x) (tk : Takes X W) (hdb : (x == ("__debug__" : Str)) = false := by decide) : PS X (.Raise (some (.Call (.Name x p) [] [] pos)) none pos2) (tRz C n W) := by
  obtain ⟨fI, fd, ps, O, G, b⟩ := T.ex
  refine PS_imp (ps_raise hc tk (pmk_r0 O G (hr.mono hk) b hg hdb)) fun D σ H z => ?_
  refine ⟨Nat.zero_le _, fun a ha => ⟨a, rfl, upd_same, fun dx hd hn => ⟨rfl, dx, _, upd_same, (upd_ne hn).trans upd_same, ?_, ?_⟩⟩⟩
  · rw [upd_ne hn] at hd; exact hd
  · rw [let_go ha hn]
    refine z dx ?_
    rw [upd_ne hn] at hd; exact hd
theorem let_go2 {H : Hp} {a d C : Addr} {fs fs' gs : List (Str × V)} (ha : H a = none) (hne : d ≠ a) : upd (del (upd (upd (upd (upd H a (exo a C none)) d (exd d fs)) a (exo a C (some d))) d (exd d fs')) a) d (.xd gs) = upd H d (.xd gs) := by
  funext b
  by_cases hb : b = d
  · rw [hb, upd_same, upd_same]
  · rw [upd_ne hb, upd_ne hb]
    by_cases hc : b = a
    · rw [hc, del_same, ha]
    · rw [del_ne hc, upd_ne hb, upd_ne hc, upd_ne hb, upd_ne hc]
theorem kRz_of {W : WX} {σ : L2.St} {H1 : Hp} {p : Int} (z : ∀ d, H1 d = none → W (.ref a_TextFault) (some d) σ (upd H1 d (.xd [("place", .int p), ("number", .int (-1000 - p))]))) : kRz W σ (.int p) H1 := by
  refine ⟨(by show 1 ≤ 1000; decide), fun a ha => ⟨a, p, rfl, upd_same, fun dx hd hn => ⟨rfl, dx, _, (upd_ne (Ne.symm hn)).trans upd_same, upd_same, ?_, ?_⟩⟩⟩
  · rw [upd_ne hn] at hd; exact hd
  · rw [let_go2 ha hn]
    refine z dx ?_
    rw [upd_ne hn] at hd; exact hd
theorem ps_rzP (T : Tx X.K X.mg) (hr : Room j X.A) (hk : 3 ≤ j) (hc : X.calm = true) (hg : Gl X "TextFault") (tk : Takes X W) (he : PE X e te)
    (hs : starEach (e :: []) X.env = (false, eval e X.env) :: starEach [] X.env := by rfl) (hpl : (backTo pos (starEach [] X.env)).any (·.1) = false := by rfl) : PS X (.Raise (some (.Call (.Name "TextFault" p) [e] [] pos)) none pos2) (tRzP W te) := by
  obtain ⟨fd, G, b⟩ := ok_tf (P := X.prog) (w := X.w) (base := X.base) T
  exact ps_raise hc tk (pmk_r T.x_TextFault G (hr.mono hk) b hg (pa_cons he pa_nil hs) (by decide) hs hpl)
end
end NX
namespace N
open PySem PySem.Spec PyProof.Rows L2 NX
open Vbenae (File Line Ask)
abbrev iv (l : List Int) : List V := l.map V.int
/-- a refusal with this number leaves -/
def Rf (K : PySem.W.Frag) (mg : Str → Option Value) (H : Hp) (E : XK) (n : Int) : Prop := ∀ (x : Str) (C fI d : Addr) (H' : Hp), OxC K mg x C fI → Ex H H' → H' d = some (.xd [("number", .int n)]) → E (.ref C) (some d) H'
theorem Rf.ex {K : PySem.W.Frag} {mg : Str → Option Value} {H H' : Hp} {E : XK} {n : Int} (h : Rf K mg H E n) (e : Ex H H') : Rf K mg H' E n := fun x C fI d H2 o e2 hd => h x C fI d H2 o (ext e e2) hd
theorem Rf.go {K : PySem.W.Frag} {mg : Str → Option Value} {H : Hp} {E : XK} {n : Int} {x : Str} {C fI : Addr} (h : Rf K mg H E n) (o : OxC K mg x C fI) : ∀ d, H d = none → E (.ref C) (some d) (upd H d (.xd [("number", .int n)])) := fun d hd => h x C fI d _ o (exn hd) upd_same
def Out {α : Type} (K : PySem.W.Frag) (mg : Str → Option Value) (H : Hp) (E : XK) (r : Except Int α) (k : α → Prop) : Prop := match r with
  | .ok x => k x
  | .error e => Rf K mg H E e
section
variable {P : Program} {w : World} {K : PySem.W.Frag} {mg : Str → Option Value} {base : Heap}
def isByte (c : Int) : Bool := VbenCore.isBetween c 0 255
def sp_check_text (K : PySem.W.Frag) (mg : Str → Option Value) : Sp := fun vs H Q E => ∃ a ns, vs = [.ref a] ∧ H a = some (.lst (iv ns)) ∧ Out K mg H E (Vbenae.textIn ns) fun _ => Q .non H
theorem sc_check_text : FnScope ["text", "byte"] ["text"] (defScope s_check_text) := C8.fnScope_by (by decide +kernel)
theorem c_check_text (T : Tx K mg) : Cal P w K mg base (L2.CX P w) 4 "check_text" a_check_text (sp_check_text K mg) := by
  obtain ⟨fd, F⟩ := T.d_check_text
  refine ⟨⟨fd, ["text"], F.okX sc_check_text (fun vs H Q E h => by obtain ⟨a, ns, rfl, _⟩ := h; rfl) (fun cdv A outer s H vs Q E hr h => ⟨_, pss_cons (ps_if (pt_cmpR op_gt (pe_callB call_len rfl T.f_len PySem.boot_len (pa_cons (pv 0) pa_nil)) (C8.pe_gc rfl T.k_MOST_BYTES) (nomark _)) (pss_one (ps_rz (r_NotText T) hr (by decide) rfl rfl (takes_of rfl rfl rfl rfl))) pss_nil)
    (pss_one (ps_for (passes_of rfl) rfl (pi_list (pv 0)) (pg_name (i := 1) sc_check_text.nd rfl (Or.inl rfl))
    (pss_one (ps_if (PW.pt (pw_or (pt_cmpR op_lt (pv 1) pe_int (nomark _)) (pw_or1 (pt_cmpR op_gt (pv 1) pe_int (nomark _))))) (pss_one (ps_rz (r_NotText T) hr (by decide) rfl rfl (takes_of rfl rfl rfl rfl))) pss_nil)))), ?_⟩), F.binds fun _ _ _ _ _ _ us hl => match us, hl with | [_], _ => rfl⟩, T.g_check_text, F.kp⟩
  obtain ⟨a, ns, rfl, ha, q⟩ := h
  have hl : (iv ns).length = ns.length := List.length_map ..
  have q0 : ∀ b, Vbenae.textIn ns = .ok b → Q .non H := fun b hb => by
    rw [hb] at q; exact q
  have qe : VbenCore.bytesIn ns = none → Rf K mg H E (-1) := fun hb => by
    unfold Vbenae.textIn at q
    rw [hb] at q; exact q
  refine ⟨_, rfl, _, _, rfl, .inl ⟨_, SqL.of ha, rfl⟩, _, _, rfl, rfl, _, rfl, ?_⟩
  rw [hl]
  refine ite2 (fun c => ?_) (fun c => ?_)
  · have c2 : (2000 : Int) < (ns.length : Int) := of_decide_eq_true c
    exact Rf.go (qe (by unfold VbenCore.bytesIn VbenCore.TEXT; rw [if_neg]; rintro ⟨_, z⟩; omega)) T.x_NotText
  · have c2 : ¬ (2000 : Int) < (ns.length : Int) := fun z => c (decide_eq_true z)
    refine ⟨_, rfl, a, rfl, ⟨_, SqL.of ha⟩, ?_⟩
    refine for_list (K := K) (a := a) (xs := iv ns) (fun i σ H' => ∃ u, σ = [some (.ref a), u] ∧ H' = H ∧ (ns.take i).all isByte = true) ⟨_, rfl, rfl, rfl⟩ (fun i σ H' _ ⟨_, _, e, _⟩ => e ▸ SqL.of ha) ?_ ?_
    · rintro i y σ H' hi ⟨u, rfl, rfl, hall⟩
      rw [List.getElem?_map] at hi
      obtain ⟨z, hz, rfl⟩ := Option.map_eq_some_iff.mp hi
      have bad : isByte z = false → VbenCore.bytesIn ns = none := fun hb => by
        unfold VbenCore.bytesIn
        rw [if_neg]
        rintro ⟨h1, _⟩
        have := List.all_eq_true.mp h1 z (List.mem_of_getElem? hz)
        unfold isByte at hb
        rw [hb] at this
        cases this
      refine ⟨_, rfl, _, _, rfl, rfl, _, rfl, ?_⟩
      refine ite2 (fun c => ?_) (fun c => ?_)
      · refine iteT ?_
        refine Rf.go (qe (bad ?_)) T.x_NotText
        have := of_decide_eq_true c
        simp [isByte, VbenCore.isBetween]; omega
      · refine ⟨_, rfl, _, _, rfl, rfl, _, rfl, ?_⟩
        have c1 : ¬ z < 0 := fun z => c (decide_eq_true z)
        refine ite2 (fun d => ?_) (fun d => ?_)
        · refine Rf.go (qe (bad ?_)) T.x_NotText
          have := of_decide_eq_true d
          simp [isByte, VbenCore.isBetween]; omega
        · have d1 : ¬ 255 < z := fun z => d (decide_eq_true z)
          refine ⟨_, rfl, rfl, ?_⟩
          rw [take_more hz, List.all_append, hall]
          simp [isByte, VbenCore.isBetween]; omega
    · rintro σ H' ⟨u, rfl, rfl, hall⟩
      rw [hl, List.take_length] at hall
      refine q0 (ns.map Int.toNat) ?_
      unfold Vbenae.textIn VbenCore.bytesIn VbenCore.TEXT
      rw [if_pos ⟨hall, by omega⟩]
def sp_check_below (K : PySem.W.Frag) (mg : Str → Option Value) : Sp := fun vs H Q E => ∃ n b : Int, vs = [.int n, .int b] ∧ (0 ≤ n ∧ n < b → Q .non H) ∧ (n < 0 ∨ b ≤ n → Rf K mg H E (-3))
theorem sc_check_below : FnScope ["number", "bound"] ["number", "bound"] (defScope s_check_below) := C8.fnScope_by (by decide +kernel)
theorem c_check_below (T : Tx K mg) : Cal P w K mg base (L2.CX P w) 4 "check_below" a_check_below (sp_check_below K mg) := by
  obtain ⟨fd, F⟩ := T.d_check_below
  refine ⟨⟨fd, ["number", "bound"], F.okX sc_check_below (fun vs H Q E h => by obtain ⟨n, b, rfl, _⟩ := h; rfl) (fun cdv A outer s H vs Q E hr h => ⟨_, pss_one (ps_if (PW.pt (pw_or (pt_cmpR op_lt (pv 0) pe_int (nomark _)) (pw_or1 (pt_cmpR op_ge (pv 0) (pv 1) (nomark _))))) (pss_one (ps_rz (r_NotInRange T) hr (by decide) rfl rfl (takes_of rfl rfl rfl rfl))) pss_nil), ?_⟩), F.binds fun _ _ _ _ _ _ us hl => match us, hl with | [_, _], _ => rfl⟩, T.g_check_below, F.kp⟩
  obtain ⟨n, b, rfl, q0, qe⟩ := h
  refine ⟨_, rfl, _, _, rfl, rfl, _, rfl, ?_⟩
  refine ite2 (fun c => ?_) (fun c => ?_)
  · refine iteT ?_
    exact Rf.go (qe (.inl (of_decide_eq_true c))) T.x_NotInRange
  · have c1 : ¬ n < 0 := fun z => c (decide_eq_true z)
    refine ⟨_, rfl, _, rfl, _, _, rfl, rfl, _, rfl, ?_⟩
    refine ite2 (fun d => ?_) (fun d => ?_)
    · exact Rf.go (qe (.inr (of_decide_eq_true d))) T.x_NotInRange
    · have d1 : ¬ b ≤ n := fun z => d (decide_eq_true z)
      exact q0 ⟨by omega, by omega⟩
def sp_find_question (K : PySem.W.Frag) (mg : Str → Option Value) : Sp := fun vs H Q E => ∃ a f, ∃ n : Int, vs = [.ref a, .int n] ∧ FileAt H a f ∧ f.asks.length ≤ 6 ∧ Out K mg H E (Vbenae.askNo f n) fun q => ∀ x v, f.asks[q]? = some x → QuesAt H f.marks x v → Q v H
theorem sc_find_question : FnScope ["card_file", "number"] ["card_file", "number"] (defScope s_find_question) := C8.fnScope_by (by decide +kernel)
theorem c_find_question (T : Tx K mg) : Cal P w K mg base (L2.CX P w) 5 "find_question" a_find_question (sp_find_question K mg) := by
  obtain ⟨fd, F⟩ := T.d_find_question
  refine ⟨⟨fd, ["card_file", "number"], F.okX sc_find_question (fun vs H Q E h => by obtain ⟨a, f, n, rfl, _⟩ := h; rfl) (fun cdv A outer s H vs Q E hr h => ⟨_, pss_cons (ps_expr (pe_fX (c_check_below T) hr (by decide) (passes_call (takes_of rfl rfl rfl rfl) fun _ _ _ _ z => z) rfl (pa_cons (pv 1) (pa_cons (C8.pe_gc rfl T.k_MOST_QUESTIONS) pa_nil))))
    (pss_cons (ps_if (pt_cmpR op_ge (pv 1) (pe_callB call_len rfl T.f_len PySem.boot_len (pa_cons (pe_fld (pv 0) rfl) pa_nil)) (nomark _)) (pss_one (ps_rz (r_NoQuestion T) hr (by decide) rfl rfl (takes_of rfl rfl rfl rfl))) pss_nil)
    (pss_one (ps_ret (pe_ix ix_list (pe_fld (pv 0) rfl) (pv 1) (fun _ _ => rfl))))), ?_⟩), F.binds fun _ _ _ _ _ _ us hl => match us, hl with | [_, _], _ => rfl⟩, T.g_find_question, F.kp⟩
  obtain ⟨a, f, n, rfl, hf, wq, q⟩ := h
  obtain ⟨dx, m, l, qq, ys, zs, h1, h2, h3, h4, h5, h6⟩ := id hf
  have hl := h6.len
  have no : (n < 0 ∨ 6 ≤ n) → Rf K mg H E (-3) := fun c => by
    have e : Vbenae.askNo f n = .error (-3) := by
      unfold Vbenae.askNo Vbenae.ranged VbenCore.isBetween
      rw [if_neg (by simp; omega)] <;> rfl
    rw [e] at q; exact q
  refine ⟨_, rfl, n, 6, rfl, fun hn => ?_, fun hn => no hn⟩
  have ra : Vbenae.ranged n 0 5 = .ok n.toNat := by
    unfold Vbenae.ranged VbenCore.isBetween
    rw [if_pos (by simp; omega)]
  refine ⟨_, rfl, _, rfl, a, _, dx, _, _, rfl, h1, T.cl_CardFile, T.na_CardFile_questions, rfl, _, _, rfl, .inl ⟨_, SqL.of h5, rfl⟩, _, _, rfl, rfl, _, rfl, ?_⟩
  refine ite2 (fun c => ?_) (fun c => ?_)
  · have c1 : (zs.length : Int) ≤ n := of_decide_eq_true c
    have e : Vbenae.askNo f n = .error (-5) := by
      unfold Vbenae.askNo
      rw [ra]
      show (if n.toNat < f.asks.length then _ else _) = _
      rw [if_neg (by omega)]
    rw [e] at q
    exact Rf.go q T.x_NoQuestion
  · have c1 : ¬ (zs.length : Int) ≤ n := fun z => c (decide_eq_true z)
    have e : Vbenae.askNo f n = .ok n.toNat := by
      unfold Vbenae.askNo
      rw [ra]
      show (if n.toNat < f.asks.length then _ else _) = _
      rw [if_pos (by omega)] <;> rfl
    rw [e] at q
    have hx : f.asks[n.toNat]? = some f.asks[n.toNat] := List.getElem?_eq_getElem (by omega)
    obtain ⟨v, hv, hqv⟩ := h6.get hx
    have en : n = ((n.toNat : Nat) : Int) := by omega
    refine ⟨_, rfl, a, _, dx, _, _, rfl, h1, T.cl_CardFile, T.na_CardFile_questions, rfl, _, rfl, _, _, _, _, rfl, rfl, SqL.of h5, by rw [en]; exact atI_nat hv, q _ _ hx hqv⟩
def sp_check_labels (K : PySem.W.Frag) (mg : Str → Option Value) : Sp := fun vs H Q E => ∃ a ns, ∃ c : Nat, vs = [.ref a, .int c] ∧ H a = some (.lst (iv ns)) ∧
  ((ns.length ≠ c ∨ (ns.all fun z => VbenCore.isBetween z (-1000000000000) 1000000000000) = false) → Rf K mg H E (-6)) ∧ (ns.length = c → (ns.all fun z => VbenCore.isBetween z (-1000000000000) 1000000000000) = true → Q .non H)
theorem sc_check_labels : FnScope ["labels", "cube_count", "label"] ["labels", "cube_count"] (defScope s_check_labels) := C8.fnScope_by (by decide +kernel)
theorem c_check_labels (T : Tx K mg) : Cal P w K mg base (L2.CX P w) 4 "check_labels" a_check_labels (sp_check_labels K mg) := by
  obtain ⟨fd, F⟩ := T.d_check_labels
  refine ⟨⟨fd, ["labels", "cube_count"], F.okX sc_check_labels (fun vs H Q E h => by obtain ⟨a, ns, c, rfl, _⟩ := h; rfl) (fun cdv A outer s H vs Q E hr h => ⟨_, pss_cons (ps_if (pt_cmpR op_ne (pe_callB call_len rfl T.f_len PySem.boot_len (pa_cons (pv 0) pa_nil)) (pv 1) (nomark _)) (pss_one (ps_rz (r_NotLabels T) hr (by decide) rfl rfl (takes_of rfl rfl rfl rfl))) pss_nil)
    (pss_one (ps_for (passes_of rfl) rfl (pi_list (pv 0)) (pg_name (i := 2) sc_check_labels.nd rfl (Or.inl rfl))
    (pss_one (ps_if (PW.pt (pw_or (pt_cmpR op_lt (pv 2) (pe_un un_neg (C8.pe_gc rfl T.k_MOST_LABEL)) (nomark _)) (pw_or1 (pt_cmpR op_gt (pv 2) (C8.pe_gc rfl T.k_MOST_LABEL) (nomark _))))) (pss_one (ps_rz (r_NotLabels T) hr (by decide) rfl rfl (takes_of rfl rfl rfl rfl))) pss_nil)))), ?_⟩), F.binds fun _ _ _ _ _ _ us hl => match us, hl with | [_, _], _ => rfl⟩, T.g_check_labels, F.kp⟩
  obtain ⟨a, ns, c, rfl, ha, qe, q0⟩ := h
  have hl : (iv ns).length = ns.length := List.length_map ..
  refine ⟨_, rfl, _, _, rfl, .inl ⟨_, SqL.of ha, rfl⟩, _, rfl, rfl, _, rfl, ?_⟩
  rw [hl]
  by_cases cc : ns.length = c
  · refine iteNS (by rw [cc]) ?_
    refine ⟨_, rfl, a, rfl, ⟨_, SqL.of ha⟩, ?_⟩
    refine for_list (K := K) (a := a) (xs := iv ns) (fun i σ H' => ∃ u, σ = [some (.ref a), some (.int c), u] ∧ H' = H ∧ ((ns.take i).all fun z => VbenCore.isBetween z (-1000000000000) 1000000000000) = true) ⟨_, rfl, rfl, rfl⟩ (fun i σ H' _ ⟨_, _, e, _⟩ => e ▸ SqL.of ha) ?_ ?_
    · rintro i y σ H' hi ⟨u, rfl, rfl, hall⟩
      rw [List.getElem?_map] at hi
      obtain ⟨z, hz, rfl⟩ := Option.map_eq_some_iff.mp hi
      have bad : VbenCore.isBetween z (-1000000000000) 1000000000000 = false → Rf K mg H' E (-6) := fun hb => qe (.inr (by
        rw [List.all_eq_false]
        exact ⟨z, List.mem_of_getElem? hz, by rw [hb]; decide⟩))
      refine ⟨_, rfl, _, rfl, _, _, rfl, rfl, _, rfl, ?_⟩
      refine ite2 (fun c => ?_) (fun c => ?_)
      · refine iteT ?_
        refine Rf.go (bad ?_) T.x_NotLabels
        have := of_decide_eq_true c
        simp [VbenCore.isBetween]; omega
      · refine ⟨_, rfl, _, _, rfl, rfl, _, rfl, ?_⟩
        have c1 : ¬ z < -1000000000000 := fun z => c (decide_eq_true z)
        refine ite2 (fun d => ?_) (fun d => ?_)
        · refine Rf.go (bad ?_) T.x_NotLabels
          have := of_decide_eq_true d
          simp [VbenCore.isBetween]; omega
        · have d1 : ¬ 1000000000000 < z := fun z => d (decide_eq_true z)
          refine ⟨_, rfl, rfl, ?_⟩
          rw [take_more hz, List.all_append, hall]
          simp [VbenCore.isBetween]; omega
    · rintro σ H' ⟨u, rfl, rfl, hall⟩
      rw [hl, List.take_length] at hall
      exact q0 cc hall
  · have cd : ¬ V.int (ns.length : Int) = V.int (c : Int) := fun z => by
      have := V.int.inj z
      omega
    rw [decide_eq_false cd]
    exact iteT (Rf.go (qe (.inl cc)) T.x_NotLabels)
end
end N
namespace N
open PySem PySem.Spec PyProof.Rows L2 NX
open Vbenae (File Line Ask)
/-! ### unlike numbers -/
theorem pigeon : ∀ (n : Nat) (l : List Nat), l.Nodup → (∀ x ∈ l, x < n) → l.length ≤ n
  | 0, [], _, _ => Nat.le_refl _
  | 0, x :: _, _, h => absurd (h x List.mem_cons_self) (Nat.not_lt_zero _)
  | n + 1, l, nd, h => by
    have ih := pigeon n (l.filter fun x => x != n) (nd.filter _) (fun x hx => by
      obtain ⟨h1, h2⟩ := List.mem_filter.mp hx
      have := h x h1
      have h3 : x ≠ n := by simpa using h2
      omega)
    have hc : l.length ≤ (l.filter fun x => x != n).length + 1 := by
      clear ih h
      induction l with
      | nil => simp
      | cons a r ihr =>
        obtain ⟨ha, hr⟩ := List.nodup_cons.mp nd
        by_cases e : a = n
        · subst e
          have : (r.filter fun x => x != a) = r := List.filter_eq_self.mpr fun x hx => by
            have : x ≠ a := fun z => ha (z ▸ hx)
            simpa using this
          rw [List.filter_cons, if_neg (by simp), this]
          simp
        · rw [List.filter_cons, if_pos (by simpa using e), List.length_cons, List.length_cons]
          have := ihr hr
          omega
    omega
theorem dups_le : ∀ (n : Nat) (l : List Nat), l.length ≤ n → l.eraseDups.length ≤ l.length
  | _, [], _ => Nat.le_refl _
  | 0, _ :: _, h => by simp at h
  | n + 1, a :: r, h => by
    rw [List.eraseDups_cons, List.length_cons, List.length_cons]
    have h1 := List.length_filter_le (fun b => !b == a) r
    have := dups_le n (r.filter fun b => !b == a) (by simp at h; omega)
    omega
theorem dups_iff : ∀ (n : Nat) (l : List Nat), l.length ≤ n → (l.eraseDups.length = l.length ↔ l.Nodup)
  | _, [], _ => ⟨fun _ => List.nodup_nil, fun _ => rfl⟩
  | 0, _ :: _, h => by simp at h
  | n + 1, a :: r, h => by
    have h1 := List.length_filter_le (fun b => !b == a) r
    have h2 := dups_le n (r.filter fun b => !b == a) (by simp at h; omega)
    rw [List.eraseDups_cons, List.length_cons, List.length_cons, List.nodup_cons]
    constructor
    · intro e
      have e1 : (r.filter fun b => !b == a).length = r.length := by omega
      have e2 : r.filter (fun b => !b == a) = r := List.filter_eq_self.mpr (List.length_filter_eq_length_iff.mp e1)
      refine ⟨fun ha => ?_, ?_⟩
      · have := List.length_filter_eq_length_iff.mp e1 a ha
        simp at this
      · rw [e2] at e
        exact (dups_iff n r (by simp at h; omega)).mp (by omega)
    · rintro ⟨ha, hr⟩
      have e2 : r.filter (fun b => !b == a) = r := List.filter_eq_self.mpr fun x hx => by
        have : x ≠ a := fun z => ha (z ▸ hx)
        simpa using this
      rw [e2, (dups_iff n r (by simp at h; omega)).mpr hr]
/-- a question by its number -/
def askOf (f : File) (q : Nat) : List Nat × Ask := (f.asks[q]?).getD ([], .none_)
theorem askOf_at (f : File) (q : Nat) : (askOf f q).2 = Vbenae.askAt f q := by
  unfold askOf Vbenae.askAt
  cases f.asks[q]? <;> rfl
/-- good numbers: in range, unlike -/
def Good (k : Nat) (l : List Int) : Prop := (∀ z ∈ l, 0 ≤ z ∧ z < (k : Int)) ∧ l.Nodup
theorem nodup_toNat {l : List Int} (h : ∀ z ∈ l, 0 ≤ z) : (l.map Int.toNat).Nodup ↔ l.Nodup := by
  induction l with
  | nil => exact ⟨fun _ => List.nodup_nil, fun _ => List.nodup_nil⟩
  | cons a r ih =>
    have ihr := ih fun z hz => h z (List.mem_cons_of_mem _ hz)
    rw [List.map_cons, List.nodup_cons, List.nodup_cons, ihr]
    have key : a.toNat ∈ r.map Int.toNat ↔ a ∈ r := by
      rw [List.mem_map]
      constructor
      · rintro ⟨b, hb, e⟩
        have h1 := h b (List.mem_cons_of_mem _ hb)
        have h2 := h a List.mem_cons_self
        have : a = b := by omega
        rw [this]; exact hb
      · exact fun ha => ⟨a, ha, rfl⟩
    rw [key]
theorem asksIn_good {f : File} {l : List Int} (wq : f.asks.length ≤ 6) : (l ≠ [] ∧ Good f.asks.length l → Vbenae.asksIn f l = .ok (l.map Int.toNat)) ∧ (¬ (l ≠ [] ∧ Good f.asks.length l) → Vbenae.asksIn f l = .error (-4)) := by
  have all : (l.all fun q => VbenCore.isBetween q 0 ((f.asks.length : Int) - 1)) = true ↔ ∀ z ∈ l, 0 ≤ z ∧ z < (f.asks.length : Int) := by
    rw [List.all_eq_true]
    constructor
    · intro h z hz
      have := h z hz
      simp [VbenCore.isBetween] at this
      omega
    · intro h z hz
      have := h z hz
      simp [VbenCore.isBetween]
      omega
  constructor
  · rintro ⟨hne, hr, hd⟩
    have nd : (l.map Int.toNat).Nodup := (nodup_toNat fun z hz => (hr z hz).1).mpr hd
    have hl := pigeon f.asks.length (l.map Int.toNat) nd (fun x hx => by
      obtain ⟨z, hz, rfl⟩ := List.mem_map.mp hx
      have := hr z hz
      omega)
    rw [List.length_map] at hl
    unfold Vbenae.asksIn
    have hpos : 0 < l.length := List.length_pos_iff.mpr hne
    rw [if_pos ⟨by omega, by omega, all.mpr hr, by rw [(dups_iff _ _ (Nat.le_refl _)).mpr nd, List.length_map]⟩]
  · intro hno
    unfold Vbenae.asksIn
    rw [if_neg]
    rintro ⟨h1, h2, h3, h4⟩
    have hr := all.mp h3
    refine hno ⟨fun z => by rw [z] at h1; simp at h1, hr, ?_⟩
    refine (nodup_toNat fun z hz => (hr z hz).1).mp ((dups_iff _ _ (Nat.le_refl _)).mp ?_)
    rw [h4, List.length_map]
theorem inV_ints (z : Int) (l : List Int) : inV (.int z) (iv l) = decide (z ∈ l) := by
  unfold inV
  induction l with
  | nil => rfl
  | cons a r ih =>
    show (eqV (.int a) (.int z) || (iv r).any fun y => eqV y (.int z)) = _
    rw [ih]
    by_cases e : a = z
    · subst e
      simp [eqV]
    · have : eqV (.int a) (.int z) = false := by simp [eqV, e]
      rw [this, Bool.false_or]
      have : ¬ z = a := fun y => e y.symm
      simp [this]
theorem flat_ints (l : List Int) : (iv l).all flatV = true := by
  rw [List.all_eq_true]
  intro v hv
  obtain ⟨z, _, rfl⟩ := List.mem_map.mp hv
  rfl
section
variable {P : Program} {w : World} {K : PySem.W.Frag} {mg : Str → Option Value} {base : Heap}
def sp_find_questions (K : PySem.W.Frag) (mg : Str → Option Value) : Sp := fun vs H Q E => ∃ a f b ns, vs = [.ref a, .ref b] ∧ FileAt H a f ∧ f.asks.length ≤ 6 ∧ H b = some (.lst (iv ns)) ∧
  Out K mg H E (Vbenae.asksIn f ns) fun qs => ∀ H' p, Ex H H' → H p = none → QsAt H' p f.marks (qs.map (askOf f)) → Q (.ref p) H'
theorem sc_find_questions : FnScope ["card_file", "numbers", "place", "number"] ["card_file", "numbers"] (defScope s_find_questions) := C8.fnScope_by (by decide +kernel)
theorem c_find_questions (T : Tx K mg) : Cal P w K mg base (L2.CX P w) 4 "find_questions" a_find_questions (sp_find_questions K mg) := by
  obtain ⟨fd, F⟩ := T.d_find_questions
  refine ⟨⟨fd, ["card_file", "numbers"], F.okX sc_find_questions (fun vs H Q E h => by obtain ⟨a, f, b, ns, rfl, _⟩ := h; rfl) (fun cdv A outer s H vs Q E hr h => ⟨_, pss_cons (ps_if (PW.pt (pw_or (pt_cmpR op_eq (pe_callB call_len rfl T.f_len PySem.boot_len (pa_cons (pv 1) pa_nil)) pe_int (nomark _)) (pw_or1 (pt_cmpR op_gt (pe_callB call_len rfl T.f_len PySem.boot_len (pa_cons (pv 1) pa_nil)) (pe_callB call_len rfl T.f_len PySem.boot_len (pa_cons (pe_fld (pv 0) rfl) pa_nil)) (nomark _))))) (pss_one (ps_rz (r_NotQuestions T) hr (by decide) rfl rfl (takes_of rfl rfl rfl rfl))) pss_nil)
    (pss_cons (ps_for (passes_of rfl) rfl (pi_enum rfl T.f_enumerate (pa_cons (pv 1) pa_nil)) (pg_tup rfl (pgs_cons (pg_name (i := 2) sc_find_questions.nd rfl (Or.inl rfl)) (pgs_cons (pg_name (i := 3) sc_find_questions.nd rfl (Or.inl rfl)) pgs_nil)))
    (pss_one (ps_if (PW.pt (pw_or (pt_cmpR op_lt (pv 3) pe_int (nomark _)) (pw_or (pt_cmpR op_ge (pv 3) (pe_callB call_len rfl T.f_len PySem.boot_len (pa_cons (pe_fld (pv 0) rfl) pa_nil)) (nomark _)) (pw_or1 (pt_cmpR op_in_seq (pv 3) (pe_slice sl_list (pv 1) po_none (po_some (pv 2))) (by rfl)))))) (pss_one (ps_rz (r_NotQuestions T) hr (by decide) rfl rfl (takes_of rfl rfl rfl rfl))) pss_nil)))
    (pss_one (ps_ret (by exact (pe_lc (own := [("number", 3)]) (g := gName 3) rfl sc_find_questions.nd (pi_list (pv 1)) (blkOk_by (own := [("number", 3)]) (N := ["card_file", "numbers", "place", "number"]) (sc := defScope s_find_questions) (by decide +kernel)) (fun _ _ _ _ _ => by exact (pg_name (i := 3) sc_find_questions.nd rfl (Or.inl rfl))) (fun _ _ _ _ _ => by exact pts_nil) (fun _ _ _ _ _ => by exact (pe_ix (ix_listK (K := K) rfl) (pe_fldK (K := K) rfl (pv 0) rfl) (pv 3) (fun _ _ => rfl)))))))), ?_⟩), F.binds fun _ _ _ _ _ _ us hl => match us, hl with | [_, _], _ => rfl⟩, T.g_find_questions, F.kp⟩
  obtain ⟨a, f, b, ns, rfl, hf, wq, hb, q⟩ := h
  obtain ⟨dx, m, l, qq, ys, zs, h1, h2, h3, h4, h5, h6⟩ := id hf
  have hlz := h6.len
  have hl : (iv ns).length = ns.length := List.length_map ..
  obtain ⟨gok, gno⟩ := asksIn_good (l := ns) wq
  have no : ¬ (ns ≠ [] ∧ Good f.asks.length ns) → Rf K mg H E (-4) := fun c => by
    rw [gno c] at q; exact q
  refine ⟨_, rfl, _, _, rfl, .inl ⟨_, SqL.of hb, rfl⟩, rfl, _, rfl, ?_⟩
  rw [hl]
  by_cases c0 : ns.length = 0
  · rw [decide_eq_true (by rw [c0]; rfl)]
    refine iteT (iteT ?_)
    exact Rf.go (no fun z => z.1 (List.length_eq_zero_iff.mp c0)) T.x_NotQuestions
  · have cd : ¬ V.int (ns.length : Int) = V.int 0 := fun z => by
      have := V.int.inj z
      omega
    rw [decide_eq_false cd]
    refine iteF ?_
    refine ⟨_, rfl, _, _, rfl, .inl ⟨_, SqL.of hb, rfl⟩, _, rfl, a, _, dx, _, _, rfl, h1, T.cl_CardFile, T.na_CardFile_questions, rfl, _, _, rfl, .inl ⟨_, SqL.of h5, rfl⟩, _, _, rfl, rfl, _, rfl, ?_⟩
    rw [hl]
    refine ite2 (fun c => ?_) (fun c => ?_)
    · have c1 : (zs.length : Int) < (ns.length : Int) := of_decide_eq_true c
      refine Rf.go (no fun z => ?_) T.x_NotQuestions
      have nd : (ns.map Int.toNat).Nodup := (nodup_toNat fun y hy => (z.2.1 y hy).1).mpr z.2.2
      have hp := pigeon f.asks.length (ns.map Int.toNat) nd (fun x hx => by
        obtain ⟨y, hy, rfl⟩ := List.mem_map.mp hx
        have := z.2.1 y hy
        omega)
      rw [List.length_map] at hp
      omega
    · have c1 : ¬ (zs.length : Int) < (ns.length : Int) := fun z => c (decide_eq_true z)
      refine ⟨_, rfl, b, _, rfl, SqL.of hb, ?_⟩
      refine for_it (walk_enum (K := K) (a := b) (xs := iv ns)) (fun i σ H' => ∃ u v, σ = [some (.ref a), some (.ref b), u, v] ∧ Ex H H' ∧ Good f.asks.length (ns.take i))
        ⟨_, _, rfl, exr, fun z hz => by simp at hz, List.nodup_nil⟩ (fun i σ H' _ ⟨_, _, _, e, _⟩ => SqL.of (e _ _ hb)) ?_ ?_
      · rintro i y σ H' H2 hi ⟨u, v, rfl, e, hg⟩ ⟨t, u1, v1, rfl, ht, rfl, hu, hv⟩
        cases hu
        have hv' : (iv ns)[i]? = some v1 := hv
        rw [List.getElem?_map] at hv'
        obtain ⟨z, hz, rfl⟩ := Option.map_eq_some_iff.mp hv'
        have et := exn (o := .tup [.int (i : Nat), .int z]) ht
        have e2 := ext e et
        have zin : z ∈ ns := List.mem_of_getElem? hz
        have bad : ¬ (0 ≤ z ∧ z < (f.asks.length : Int)) ∨ z ∈ ns.take i → ∀ {H3}, Ex H H3 → Rf K mg H3 E (-4) := fun hb {H3} e3 => (no fun w => by
          rcases hb with hb | hb
          · exact hb (w.2.1 z zin)
          · have hnd := w.2.2
            rw [← List.take_append_drop i ns, List.nodup_append] at hnd
            refine hnd.2.2 z hb z ?_ rfl
            have : ns.drop i = z :: ns.drop (i + 1) := by
              have hi2 : i < ns.length := (List.getElem?_eq_some_iff.mp hz).1
              rw [List.drop_eq_getElem_cons hi2]
              congr 1
              exact (List.getElem?_eq_some_iff.mp hz).2
            rw [this]
            exact List.mem_cons_self).ex e3
        refine ⟨t, _, rfl, SqT.of upd_same, rfl, _, _, rfl, _, _, rfl, rfl, ?_⟩
        refine ⟨_, rfl, _, _, rfl, rfl, _, rfl, ?_⟩
        refine ite2 (fun d => ?_) (fun d => ?_)
        · refine iteT ?_
          exact Rf.go (bad (.inl fun w => by have := of_decide_eq_true d; omega) e2) T.x_NotQuestions
        · have d1 : ¬ z < 0 := fun y => d (decide_eq_true y)
          refine ⟨_, rfl, _, rfl, a, _, dx, _, _, rfl, e2 _ _ h1, T.cl_CardFile, T.na_CardFile_questions, rfl, _, _, rfl, .inl ⟨_, SqL.of (e2 _ _ h5), rfl⟩, _, _, rfl, rfl, _, rfl, ?_⟩
          refine ite2 (fun d => ?_) (fun d => ?_)
          · refine iteT ?_
            exact Rf.go (bad (.inl fun w => by have := of_decide_eq_true d; omega) e2) T.x_NotQuestions
          · have d2 : ¬ (zs.length : Int) ≤ z := fun y => d (decide_eq_true y)
            have hi2 : i < ns.length := (List.getElem?_eq_some_iff.mp hz).1
            refine ⟨_, rfl, _, rfl, _, rfl, _, rfl, _, _, rfl, SqL.of (e2 _ _ hb), fun p hp => ?_⟩
            rw [cut_to (by rw [hl]; omega), ← List.map_take]
            have e3 := exn (o := .lst (iv (ns.take i))) hp
            refine ⟨_, _, rfl, .inl (SqL.of upd_same), rfl, flat_ints _, _, rfl, ?_⟩
            show if inV (V.int z) (iv (ns.take i)) = true then _ else _
            rw [inV_ints]
            refine ite2 (fun g => ?_) (fun g => ?_)
            · exact Rf.go (bad (.inr (of_decide_eq_true g)) (ext e2 e3)) T.x_NotQuestions
            · have g1 : z ∉ ns.take i := fun y => g (decide_eq_true y)
              refine ⟨_, _, rfl, ext e2 e3, ?_⟩
              rw [take_more hz]
              refine ⟨fun y hy => ?_, ?_⟩
              · rcases List.mem_append.mp hy with h | h
                · exact hg.1 y h
                · have : y = z := by simpa using h
                  subst this
                  exact ⟨by omega, by omega⟩
              · rw [List.nodup_append]
                exact ⟨hg.2, by simp, fun y hy y2 hy2 => by
                  have : y2 = z := by simpa using hy2
                  subst this
                  exact fun w => g1 (w ▸ hy)⟩
      · rintro σ H' ⟨u, v, rfl, e, hg⟩
        rw [hl, List.take_length] at hg
        have hne : ns ≠ [] := fun z => c0 (by rw [z]; rfl)
        rw [gok ⟨hne, hg⟩] at q
        refine ⟨_, rfl, b, rfl, ⟨_, SqL.of (e _ _ hb)⟩, fun D hD => ?_⟩
        refine lc_rel (walk_list (K := K) (a := b) (xs := iv ns)) (fun i v _ => ∃ z, ns[i]? = some z ∧ zs[z.toNat]? = some v) (fun i v Ha Hb nl h => h) (by rw [hl]; omega) hD (fun H3 e3 => SqL.of (e3 _ _ (e _ _ hb))) (fun i x H3 H4 C hi e3 y hC => ?_) (fun H3 us e3 h3' hlu hr => ?_)
        · obtain ⟨rfl, hx⟩ := y
          rw [List.getElem?_map] at hx
          obtain ⟨z, hz, rfl⟩ := Option.map_eq_some_iff.mp hx
          have hzr := hg.1 z (List.mem_of_getElem? hz)
          have hgz : zs[z.toNat]? = some zs[z.toNat] := List.getElem?_eq_getElem (by omega)
          have en : z = ((z.toNat : Nat) : Int) := by omega
          refine ⟨rfl, _, rfl, a, _, dx, _, _, rfl, (ext e e3) _ _ h1, T.cl_CardFile, T.na_CardFile_questions, rfl, _, rfl, _, _, _, _, rfl, rfl, SqL.of ((ext e e3) _ _ h5), by rw [en]; exact atI_nat hgz, ?_⟩
          exact hC _ _ exr ⟨z, hz, hgz⟩
        · rw [hl] at hlu
          refine q _ _ (ext e e3) (frb e hD) ⟨us, h3', Al.of (by rw [List.length_map, List.length_map, hlu]) fun i x y hx hy => ?_⟩
          obtain ⟨z, hz, hzz⟩ := hr i y hy
          rw [List.getElem?_map, List.getElem?_map, hz] at hx
          have hx2 : askOf f z.toNat = x := Option.some.inj hx
          obtain ⟨x3, hx3, hq3⟩ := h6.get' hzz
          have : x3 = x := by
            rw [← hx2]
            unfold askOf
            rw [hx3] <;> rfl
          rw [← this]
          exact hq3.ex (ext e e3)
end
end N
namespace N
open PySem PySem.Spec PyProof.Rows L2 NX
open Vbenae (File Line Ask W)
/-! ### texts -/
theorem lit_and : ("and" : Str) = SX.S (W "and") := by decide +kernel
theorem lit_or : ("or" : Str) = SX.S (W "or") := by decide +kernel
theorem lit_e : ("" : Str) = SX.S [] := by decide +kernel
theorem lit_all : ("all" : Str) = SX.S (W "all") := by decide +kernel
theorem lit_none : ("none" : Str) = SX.S (W "none") := by decide +kernel
theorem lit_o : ("( " : Str) = SX.S [40, 32] := by decide +kernel
theorem lit_c : (" )" : Str) = SX.S [32, 41] := by decide +kernel
theorem lit_not : ("not " : Str) = SX.S (W "not" ++ [32]) := by decide +kernel
theorem lit_and2 : (" and " : Str) = SX.S ([32] ++ W "and" ++ [32]) := by decide +kernel
theorem lit_or2 : (" or " : Str) = SX.S ([32] ++ W "or" ++ [32]) := by decide +kernel
theorem tx_inj {a b : List Nat} : (tx a = tx b) ↔ a = b := ⟨fun h => SX.S_inj (V.str.inj h), fun h => h ▸ rfl⟩
theorem eqV_tx (a b : List Nat) : eqV (tx a) (tx b) = decide (a = b) := by
  show (SX.S a == SX.S b) = _
  exact SX.S_beq_eq
theorem inV_tx (z : List Nat) (l : List (List Nat)) : inV (tx z) (l.map tx) = decide (z ∈ l) := by
  unfold inV
  induction l with
  | nil => rfl
  | cons a r ih =>
    show (eqV (tx a) (tx z) || (r.map tx).any fun y => eqV y (tx z)) = _
    rw [ih, eqV_tx]
    by_cases e : a = z
    · subst e; simp
    · have : ¬ z = a := fun y => e y.symm
      simp [e, this]
theorem flat_tx (l : List (List Nat)) : (l.map tx).all flatV = true := by
  rw [List.all_eq_true]
  intro v hv
  obtain ⟨z, _, rfl⟩ := List.mem_map.mp hv
  rfl
/-! ### sizes -/
def asz : Ask → Nat
  | .all => 1
  | .none_ => 1
  | .mark _ => 1
  | .not_ a => asz a + 1
  | .and_ a b => asz a + asz b + 1
  | .or_ a b => asz a + asz b + 1
theorem wrap_len (b : Bool) (w : List Nat) : (Vbenae.wrap b w).length ≤ w.length + 4 := by
  unfold Vbenae.wrap
  split
  · simp [VbenCore.between, Vbenae.OPEN_, Vbenae.SHUT]
  · omega
theorem aT_len {ms : List (List Nat)} (hm : ∀ m ∈ ms, m.length ≤ 12) : ∀ a : Ask, (aT ms a).length ≤ 13 * asz a
  | .all => by show 3 ≤ 13; decide
  | .none_ => by show 4 ≤ 13; decide
  | .mark m => by
    show (ms.getD m []).length ≤ 13
    rw [List.getD_eq_getElem?_getD]
    cases h : ms[m]? with
    | none => simp
    | some x =>
      have := hm x (List.mem_of_getElem? h)
      simp; omega
  | .not_ a => by
    have ih := aT_len hm a
    have := wrap_len (decide (Vbenae.strength a < 2)) (aT ms a)
    show (W "not" ++ [32] ++ Vbenae.wrap (decide (Vbenae.strength a < 2)) (aT ms a)).length ≤ 13 * (asz a + 1)
    rw [List.length_append]
    have e : (W "not" ++ [32]).length = 4 := rfl
    omega
  | .and_ a b => by
    have iha := aT_len hm a
    have ihb := aT_len hm b
    have h1 := wrap_len (decide (Vbenae.strength a < 1)) (aT ms a)
    have h2 := wrap_len (decide (Vbenae.strength b < 2)) (aT ms b)
    show (Vbenae.wrap (decide (Vbenae.strength a < 1)) (aT ms a) ++ [32] ++ (W "and" ++ [32] ++ Vbenae.wrap (decide (Vbenae.strength b < 2)) (aT ms b))).length ≤ 13 * (asz a + asz b + 1)
    simp only [List.length_append]
    have e : (W "and").length = 3 := rfl
    have e2 : ([32] : List Nat).length = 1 := rfl
    omega
  | .or_ a b => by
    have iha := aT_len hm a
    have ihb := aT_len hm b
    have h2 := wrap_len (decide (Vbenae.strength b < 1)) (aT ms b)
    show (aT ms a ++ [32] ++ (W "or" ++ [32] ++ Vbenae.wrap (decide (Vbenae.strength b < 1)) (aT ms b))).length ≤ 13 * (asz a + asz b + 1)
    simp only [List.length_append]
    have e : (W "or").length = 2 := rfl
    have e2 : ([32] : List Nat).length = 1 := rfl
    omega
/-! ### parts of questions -/
def joint : Ask → List Nat
  | .and_ _ _ => W "and"
  | .or_ _ _ => W "or"
  | _ => []
def PartAt (H : Hp) (ms : List (List Nat)) (a : Ask) (v : V) : Prop := ∃ p dx t : Addr, v = .ref p ∧ H p = some (.ins a_Part dx [("truth", .ref t), ("spoken", tx (aT ms a)), ("joint", tx (joint a))]) ∧ H t = some (.lst (nvs (truthN ms.length a)))
theorem PartAt.fr {C : Addr} (hC : a_Part ≠ C) {H H' : Hp} (e : Fr C H H') {ms : List (List Nat)} {q : Ask} {v : V} (h : PartAt H ms q v) : PartAt H' ms q v := by
  obtain ⟨a, dx, t, rfl, h1, h2⟩ := h
  exact ⟨a, dx, t, rfl, e _ _ (fun _ _ z => hC (HO.ins.inj z).1) h1, e _ _ (fun _ _ z => by cases z) h2⟩
theorem PartAt.ex {H H' : Hp} (e : Ex H H') {ms : List (List Nat)} {q : Ask} {v : V} (h : PartAt H ms q v) : PartAt H' ms q v := h.fr (C := 0) (by decide) (frx e)
def NewPart (H : Hp) (ms : List (List Nat)) (a : Ask) (Q : VK) : Prop := ∀ H' v, Ex H H' → PartAt H' ms a v → Q v H'
abbrev pfs (t : Addr) (s j : List Nat) : List (Str × V) := [("truth", .ref t), ("spoken", tx s), ("joint", tx j)]
section
variable {P : Program} {w : World} {K : PySem.W.Frag} {mg : Str → Option Value} {base : Heap}
def sp_all_part : Sp := fun vs H Q _ => ∃ (b : Addr) (ms : List (List Nat)), vs = [.ref b] ∧ H b = some (.lst (ms.map tx)) ∧ ms.length ≤ 6 ∧ NewPart H ms .all Q
theorem tab_const (N c : Nat) : (List.replicate N [V.int (c : Nat)]).flatten = nvs (tab N fun _ => c) := by
  rw [rep_flat]
  apply List.ext_getElem?
  intro i
  rw [List.getElem?_replicate]
  by_cases h : i < N
  · rw [if_pos h, nvs_at (tab_at h)]
  · rw [if_neg h, List.getElem?_eq_none (by rw [nvs_len, tab_len]; omega)]
theorem sc_all_part : FnScope ["marks"] ["marks"] (defScope s_all_part) := C8.fnScope_by (by decide +kernel)
theorem c_all_part (T : Tx K mg) : Cal P w K mg base CX0 3 "all_part" a_all_part sp_all_part := by
  obtain ⟨fd, F⟩ := T.d_all_part
  refine ⟨⟨fd, ["marks"], F.ok sc_all_part (fun vs H Q E h => by obtain ⟨b, ms, rfl, _⟩ := h; rfl) (fun cdv A outer s H vs Q E hr h => ⟨_, pss_one (ps_ret (pe_k (c_Part_init T) hr (by decide) rfl (pa_cons (pe_op op_rep (pe_lst (pa_cons pe_int pa_nil)) (pe_f (c_count_notchings T) hr (by decide) rfl (pa_cons (pv 0) pa_nil))) (pa_cons pe_str (pa_cons pe_str pa_nil))))), ?_⟩), F.binds fun _ _ _ _ _ _ us hl => match us, hl with | [_], _ => rfl⟩, T.g_all_part, F.kp⟩
  obtain ⟨b, ms, rfl, hb, wm, q⟩ := h
  have hk := pow6 wm
  refine ⟨by show 1 ≤ sizeLine; decide, fun p0 hp0 => ?_⟩
  have e0 := exn (o := .lst [V.int 1]) hp0
  refine ⟨_, rfl, b, _, rfl, e0 _ _ hb, by rw [List.length_map]; exact wm, ?_⟩
  rw [List.length_map]
  refine ⟨_, _, _, rfl, rfl, upd_same, by omega, by omega, szl (by show 1 * _ ≤ _; rw [Int.toNat_natCast]; omega), fun p hp => ?_⟩
  rw [Int.toNat_natCast]
  have et : (List.replicate (2 ^ ms.length) [V.int 1]).flatten = nvs (truthN ms.length .all) := tab_const _ 1
  rw [et]
  have e1 := exn (o := .lst (nvs (truthN ms.length .all))) hp
  refine mk_keep rfl fun x dx hx hd => ?_
  have e3 := made_ex (C := a_Part) (fs := pfs p (W "all") []) hx hd
  exact q _ _ (ext (ext e0 e1) e3) ⟨x, dx, p, rfl, made_at, e3 _ _ upd_same⟩
def sp_none_part : Sp := fun vs H Q _ => ∃ (b : Addr) (ms : List (List Nat)), vs = [.ref b] ∧ H b = some (.lst (ms.map tx)) ∧ ms.length ≤ 6 ∧ NewPart H ms .none_ Q
theorem sc_none_part : FnScope ["marks"] ["marks"] (defScope s_none_part) := C8.fnScope_by (by decide +kernel)
theorem c_none_part (T : Tx K mg) : Cal P w K mg base CX0 3 "none_part" a_none_part sp_none_part := by
  obtain ⟨fd, F⟩ := T.d_none_part
  refine ⟨⟨fd, ["marks"], F.ok sc_none_part (fun vs H Q E h => by obtain ⟨b, ms, rfl, _⟩ := h; rfl) (fun cdv A outer s H vs Q E hr h => ⟨_, pss_one (ps_ret (pe_k (c_Part_init T) hr (by decide) rfl (pa_cons (pe_op op_rep (pe_lst (pa_cons pe_int pa_nil)) (pe_f (c_count_notchings T) hr (by decide) rfl (pa_cons (pv 0) pa_nil))) (pa_cons pe_str (pa_cons pe_str pa_nil))))), ?_⟩), F.binds fun _ _ _ _ _ _ us hl => match us, hl with | [_], _ => rfl⟩, T.g_none_part, F.kp⟩
  obtain ⟨b, ms, rfl, hb, wm, q⟩ := h
  have hk := pow6 wm
  refine ⟨by show 1 ≤ sizeLine; decide, fun p0 hp0 => ?_⟩
  have e0 := exn (o := .lst [V.int 0]) hp0
  refine ⟨_, rfl, b, _, rfl, e0 _ _ hb, by rw [List.length_map]; exact wm, ?_⟩
  rw [List.length_map]
  refine ⟨_, _, _, rfl, rfl, upd_same, by omega, by omega, szl (by show 1 * _ ≤ _; rw [Int.toNat_natCast]; omega), fun p hp => ?_⟩
  rw [Int.toNat_natCast]
  have et : (List.replicate (2 ^ ms.length) [V.int 0]).flatten = nvs (truthN ms.length .none_) := tab_const _ 0
  rw [et]
  have e1 := exn (o := .lst (nvs (truthN ms.length .none_))) hp
  refine mk_keep rfl fun x dx hx hd => ?_
  have e3 := made_ex (C := a_Part) (fs := pfs p (W "none") []) hx hd
  exact q _ _ (ext (ext e0 e1) e3) ⟨x, dx, p, rfl, made_at, e3 _ _ upd_same⟩
def sp_mark_part : Sp := fun vs H Q _ => ∃ (b : Addr) (ms : List (List Nat)) (w : List Nat) (m : Nat), vs = [.ref b, tx w] ∧ H b = some (.lst (ms.map tx)) ∧ ms.length ≤ 6 ∧ ms[m]? = some w ∧ (∀ j, j < m → ms[j]? ≠ some w) ∧ NewPart H ms (.mark m) Q
theorem sc_mark_part : FnScope ["marks", "name", "mark", "truth", "notching"] ["marks", "name"] (defScope s_mark_part) := C8.fnScope_by (by decide +kernel)
theorem c_mark_part (T : Tx K mg) : Cal P w K mg base CX0 3 "mark_part" a_mark_part sp_mark_part := by
  obtain ⟨fd, F⟩ := T.d_mark_part
  refine ⟨⟨fd, ["marks", "name"], F.ok sc_mark_part (fun vs H Q E h => by obtain ⟨b, ms, w, m, rfl, _⟩ := h; rfl) (fun cdv A outer s H vs Q E hr h => ⟨_, pss_cons (ps_set (i := 2) sc_mark_part.nd rfl (Or.inr rfl) (pe_bm PySem.F.plainAttrs_list PySem.F.slot_list_index PySem.F.type_list_index mt_index (pv 0) (pa_cons (pv 1) pa_nil)))
    (pss_cons (ps_setLc (i := 3) (own := [("notching", 4)]) (g := gName 4) rfl sc_mark_part.nd rfl rfl (sw_true rfl rfl rfl (by decide +kernel)) (pi_range1 rfl T.f_range (pa_cons (pe_f (c_count_notchings T) hr (by decide) rfl (pa_cons (pv 0) pa_nil)) pa_nil)) (blkOk_by (own := [("notching", 4)]) (N := ["marks", "name", "mark", "truth", "notching"]) (sc := defScope s_mark_part) (by decide +kernel)) (fun _ _ _ _ _ => by exact (pg_name (i := 4) sc_mark_part.nd rfl (Or.inl rfl))) (fun _ _ _ _ _ => by exact pts_nil) (fun _ _ _ _ _ => by exact (pe_op op_and (pe_op op_shr (pv 4) (pv 2)) pe_int)))
    (pss_one (ps_ret (pe_k (c_Part_init T) hr (by decide) rfl (pa_cons (pv 3) (pa_cons (pv 1) (pa_cons pe_str pa_nil))))))), ?_⟩), F.binds fun _ _ _ _ _ _ us hl => match us, hl with | [_, _], _ => rfl⟩, T.g_mark_part, F.kp⟩
  obtain ⟨b, ms, w, m, rfl, hb, wm, hm, hfirst, q⟩ := h
  have hk := pow6 wm
  have hml : m < ms.length := (List.getElem?_eq_some_iff.mp hm).1
  refine ⟨_, rfl, .inl ⟨rfl, _, SqL.of hb⟩, _, rfl, b, _, _, m, tx w, rfl, rfl, SqL.of hb, rfl, flat_tx ms, by rw [List.getElem?_map, hm] <;> rfl, by rw [eqV_tx]; simp, fun j z hj hz => ?_, ?_⟩
  · rw [List.getElem?_map] at hz
    obtain ⟨y, hy, rfl⟩ := Option.map_eq_some_iff.mp hz
    rw [eqV_tx]
    exact decide_eq_false fun e => hfirst j hj (by rw [hy, e])
  · refine ⟨_, rfl, b, _, rfl, hb, by rw [List.length_map]; exact wm, _, rfl, by rw [List.length_map]; omega, by rw [List.length_map]; omega, fun D hD => ?_⟩
    rw [List.length_map, Int.toNat_natCast]
    refine lc_map (walk_range (lo := 0) (n := 2 ^ ms.length)) (fun n => .int (((if Vbenae.notched n m = true then 1 else 0 : Nat)) : Int)) (by omega) hD (fun _ _ => trivial) (fun n x H3 H4 C hi3 e3 y3 hC => ?_) (fun H3 e3 h3' => ?_)
    · obtain ⟨rfl, rfl⟩ := y3
      refine ⟨rfl, _, rfl, _, rfl, _, _, rfl, rfl, by omega, _, _, rfl, rfl, ?_⟩
      refine qi (Q := C) ?_ (hC _ exr)
      rw [bitAnd_m1, Int.zero_add, Int.toNat_natCast]
      have e5 : ((n : Nat) : Int) / 2 ^ m % 2 = ((n / 2 ^ m % 2 : Nat) : Int) := by
        rw [Int.natCast_emod, Int.natCast_ediv, Int.natCast_pow] <;> rfl
      rw [e5]
      unfold Vbenae.notched
      by_cases h : n / 2 ^ m % 2 = 1
      · rw [h] <;> rfl
      · have : n / 2 ^ m % 2 = 0 := by omega
        rw [this] <;> rfl
    · have et : H3 D = some (.lst (nvs (truthN ms.length (.mark m)))) := h3'.trans (congrArg (fun z => some (HO.lst z)) (nvs_tab _ _).symm)
      refine ⟨_, rfl, _, rfl, ?_⟩
      refine mk_keep rfl fun x dx hx hd => ?_
      have e4 := made_ex (C := a_Part) (fs := pfs D w []) hx hd
      have ew : aT ms (.mark m) = w := by
        show ms.getD m [] = w
        rw [List.getD_eq_getElem?_getD, hm] <;> rfl
      refine q _ _ (ext e3 e4) ⟨x, dx, D, rfl, ?_, e4 _ _ et⟩
      rw [ew]
      exact made_at
end
end N
namespace N
open PySem PySem.Spec PyProof.Rows L2 NX
open Vbenae (File Line Ask W)
section
variable {P : Program} {w : World} {K : PySem.W.Frag} {mg : Str → Option Value} {base : Heap}
def brk (b : Bool) (w : List Nat) : List Nat := if b = true then [40, 32] ++ w ++ [32, 41] else w
theorem brk_wrap (b : Bool) (w : List Nat) : brk b w = Vbenae.wrap b w := by
  unfold brk Vbenae.wrap
  cases b
  · rfl
  · rw [if_pos rfl, if_pos rfl]
    show [40, 32] ++ w ++ [32, 41] = [40] ++ [32] ++ (w ++ [32] ++ [41])
    simp
theorem brk_len (b : Bool) (w : List Nat) : (brk b w).length ≤ w.length + 4 := by
  rw [brk_wrap]; exact wrap_len b w
def sp_bracketed : Sp := fun vs H Q _ => ∃ (v : V) (t : Addr) (ms : List (List Nat)) (a : Ask) (js : List (List Nat)), vs = [v, .ref t] ∧ PartAt H ms a v ∧ H t = some (.tup (js.map tx)) ∧ (aT ms a).length ≤ 100000 ∧ Q (tx (brk (decide (joint a ∈ js)) (aT ms a))) H
theorem sc_bracketed : FnScope ["part", "joints"] ["part", "joints"] (defScope s_bracketed) := C8.fnScope_by (by decide +kernel)
theorem c_bracketed (T : Tx K mg) : Cal P w K mg base CX0 1 "bracketed" a_bracketed sp_bracketed := by
  obtain ⟨fd, F⟩ := T.d_bracketed
  refine ⟨⟨fd, ["part", "joints"], F.ok sc_bracketed (fun vs H Q E h => by obtain ⟨v, t, ms, a, js, rfl, _⟩ := h; rfl) (fun cdv A outer s H vs Q E hr h => ⟨_, pss_cons (ps_if (pt_cmpR op_in_seq (pe_fld (pv 0) rfl) (pv 1) (by rfl)) (pss_one (ps_ret (pe_op op_add_str (pe_op op_add_str pe_str (pe_fld (pv 0) rfl)) pe_str))) pss_nil)
    (pss_one (ps_ret (pe_fld (pv 0) rfl))), ?_⟩), F.binds fun _ _ _ _ _ _ us hl => match us, hl with | [_, _], _ => rfl⟩, T.g_bracketed, F.kp⟩
  obtain ⟨v, t, ms, a, js, rfl, ⟨p, dx, tt, rfl, h1, h2⟩, ht, hl, q⟩ := h
  refine ⟨_, rfl, p, _, dx, _, _, rfl, h1, T.cl_Part, T.na_Part_joint, rfl, _, rfl, t, _, rfl, .inr (SqT.of ht), rfl, flat_tx js, _, rfl, ?_⟩
  show if inV (tx (joint a)) (js.map tx) = true then _ else _
  rw [inV_tx]
  refine ite2 (fun c => ?_) (fun c => ?_)
  · rw [c] at q
    refine ⟨_, rfl, p, _, dx, _, _, rfl, h1, T.cl_Part, T.na_Part_spoken, rfl, _, _, rfl, rfl, ?_, _, _, rfl, rfl, ?_, ?_⟩
    · rw [lit_o, SX.S_len, SX.S_len]; exact szl (by show 2 + _ ≤ _; omega)
    · rw [lit_o, lit_c, SX.S_cat, SX.S_len, SX.S_len, List.length_append]; exact szl (by show 2 + _ + 2 ≤ _; omega)
    · refine qs (Q := Q) ?_ q
      rw [lit_o, lit_c, SX.S_cat, SX.S_cat]
      unfold brk
      rw [if_pos rfl]
  · have cf : decide (joint a ∈ js) = false := by
      cases h : decide (joint a ∈ js)
      · rfl
      · exact absurd h c
    rw [cf] at q
    refine ⟨_, rfl, p, _, dx, _, _, rfl, h1, T.cl_Part, T.na_Part_spoken, rfl, ?_⟩
    refine qs (Q := Q) ?_ q
    unfold brk
    rw [if_neg Bool.false_ne_true]
theorem joint_ao (a : Ask) : decide (joint a ∈ [W "and", W "or"]) = decide (Vbenae.strength a < 2) := by
  cases a <;> rfl
theorem joint_o (a : Ask) : decide (joint a ∈ [W "or"]) = decide (Vbenae.strength a < 1) := by
  cases a <;> rfl
theorem truth_bit (b : Bool) : (1 : Int) - (((if b = true then 1 else 0 : Nat)) : Int) = (((if (!b) = true then 1 else 0 : Nat)) : Int) := by cases b <;> decide
theorem and_bit (a b : Bool) : Builtin.bitAnd (((if a = true then 1 else 0 : Nat)) : Int) (((if b = true then 1 else 0 : Nat)) : Int) = (((if (a && b) = true then 1 else 0 : Nat)) : Int) := by cases a <;> cases b <;> decide
theorem or_bit (a b : Bool) : Builtin.bitOr (((if a = true then 1 else 0 : Nat)) : Int) (((if b = true then 1 else 0 : Nat)) : Int) = (((if (a || b) = true then 1 else 0 : Nat)) : Int) := by cases a <;> cases b <;> decide
def sp_not_part : Sp := fun vs H Q _ => ∃ (v : V) (ms : List (List Nat)) (a : Ask), vs = [v] ∧ PartAt H ms a v ∧ ms.length ≤ 6 ∧ (aT ms a).length ≤ 100000 ∧ NewPart H ms (.not_ a) Q
theorem sc_not_part : FnScope ["part", "truth", "holds"] ["part"] (defScope s_not_part) := C8.fnScope_by (by decide +kernel)
theorem c_not_part (T : Tx K mg) : Cal P w K mg base CX0 3 "not_part" a_not_part sp_not_part := by
  obtain ⟨fd, F⟩ := T.d_not_part
  refine ⟨⟨fd, ["part"], F.ok sc_not_part (fun vs H Q E h => by obtain ⟨v, ms, a, rfl, _⟩ := h; rfl) (fun cdv A outer s H vs Q E hr h => ⟨_, pss_cons (ps_setLc (i := 1) (own := [("holds", 2)]) (g := gName 2) rfl sc_not_part.nd rfl rfl (sw_true rfl rfl rfl (by decide +kernel)) (pi_list (pe_fld (pv 0) rfl)) (blkOk_by (own := [("holds", 2)]) (N := ["part", "truth", "holds"]) (sc := defScope s_not_part) (by decide +kernel)) (fun _ _ _ _ _ => by exact (pg_name (i := 2) sc_not_part.nd rfl (Or.inl rfl))) (fun _ _ _ _ _ => by exact pts_nil) (fun _ _ _ _ _ => by exact (pe_op op_sub pe_int (pv 2))))
    (pss_one (ps_ret (pe_k (c_Part_init T) hr (by decide) rfl (pa_cons (pv 1) (pa_cons (pe_op op_add_str pe_str (pe_f (c_bracketed T) hr (by decide) rfl (pa_cons (pv 0) (pa_cons (pe_tup (pa_cons pe_str (pa_cons pe_str pa_nil))) pa_nil)))) (pa_cons pe_str pa_nil)))))), ?_⟩), F.binds fun _ _ _ _ _ _ us hl => match us, hl with | [_], _ => rfl⟩, T.g_not_part, F.kp⟩
  obtain ⟨v, ms, a, rfl, hp0, wm, hl, q⟩ := h
  obtain ⟨p, dx, tt, rfl, h1, h2⟩ := id hp0
  have hk := pow6 wm
  have len : (nvs (truthN ms.length a)).length = 2 ^ ms.length := by rw [nvs_len, truthN_len]
  refine ⟨_, rfl, p, _, dx, _, _, rfl, h1, T.cl_Part, T.na_Part_truth, rfl, tt, rfl, ⟨_, SqL.of h2⟩, fun D hD => ?_⟩
  refine lc_map (walk_list (K := K) (a := tt) (xs := nvs (truthN ms.length a))) (fun n => .int (((if (!Vbenae.holds a n) = true then 1 else 0 : Nat)) : Int)) (by omega) hD (fun H3 e3 => SqL.of (e3 _ _ h2)) (fun n x H3 H4 C hi3 e3 y3 hC => ?_) (fun H3 e3 h3' => ?_)
  · obtain ⟨rfl, hx⟩ := y3
    rw [len] at hi3
    cases (nvs_at (truthN_at hi3)).symm.trans hx
    refine ⟨rfl, _, rfl, _, _, rfl, rfl, ?_⟩
    exact qi (Q := C) (truth_bit _) (hC _ exr)
  · rw [len] at h3'
    have et : H3 D = some (.lst (nvs (truthN ms.length (.not_ a)))) := h3'.trans (congrArg (fun z => some (HO.lst z)) (nvs_tab _ _).symm)
    refine ⟨_, rfl, _, rfl, by show 2 ≤ sizeLine; decide, fun t ht => ?_⟩
    have e4 := exn (o := .tup [V.str "and", V.str "or"]) ht
    have hb := brk_len (decide (joint a ∈ [W "and", W "or"])) (aT ms a)
    refine ⟨_, t, ms, a, [W "and", W "or"], rfl, hp0.ex (ext e3 e4), ?_, hl, _, _, rfl, rfl, ?_, ?_⟩
    · rw [upd_same]; rfl
    · rw [lit_not, SX.S_len, SX.S_len]; exact szl (by show 4 + _ ≤ _; omega)
    · refine mk_keep rfl fun x dx2 hx hd => ?_
      rw [lit_not, SX.S_cat]
      have e5 := made_ex (C := a_Part) (fs := pfs D (W "not" ++ [32] ++ brk (decide (joint a ∈ [W "and", W "or"])) (aT ms a)) []) hx hd
      refine q _ _ (ext (ext e3 e4) e5) ⟨x, dx2, D, rfl, ?_, e5 _ _ (e4 _ _ et)⟩
      have ea : aT ms (.not_ a) = W "not" ++ [32] ++ brk (decide (joint a ∈ [W "and", W "or"])) (aT ms a) := by
        rw [brk_wrap, joint_ao] <;> rfl
      rw [ea]
      exact made_at
def sp_and_part : Sp := fun vs H Q _ => ∃ (u v : V) (ms : List (List Nat)) (a b : Ask), vs = [u, v] ∧ PartAt H ms a u ∧ PartAt H ms b v ∧ ms.length ≤ 6 ∧ (aT ms a).length ≤ 100000 ∧ (aT ms b).length ≤ 100000 ∧ NewPart H ms (.and_ a b) Q
theorem sc_and_part : FnScope ["left", "right", "truth", "spoken", "one", "other"] ["left", "right"] (defScope s_and_part) := C8.fnScope_by (by decide +kernel)
theorem c_and_part (T : Tx K mg) : Cal P w K mg base CX0 3 "and_part" a_and_part sp_and_part := by
  obtain ⟨fd, F⟩ := T.d_and_part
  refine ⟨⟨fd, ["left", "right"], F.ok sc_and_part (fun vs H Q E h => by obtain ⟨u, v, ms, a, b, rfl, _⟩ := h; rfl) (fun cdv A outer s H vs Q E hr h => ⟨_, pss_cons (ps_setLc (i := 2) (own := [("one", 4), ("other", 5)]) (g := gTup K 2 (gCons (gName 4) (gCons (gName 5) (gNil)))) rfl sc_and_part.nd rfl rfl (sw_true rfl rfl rfl (by decide +kernel)) (pi_zip rfl T.f_zip (pa_cons (pe_fld (pv 0) rfl) (pa_cons (pe_fld (pv 1) rfl) pa_nil))) (blkOk_by (own := [("one", 4), ("other", 5)]) (N := ["left", "right", "truth", "spoken", "one", "other"]) (sc := defScope s_and_part) (by decide +kernel)) (fun _ _ _ _ _ => by exact (pg_t2 (i1 := 4) (i2 := 5) rfl sc_and_part.nd rfl rfl rfl rfl)) (fun _ _ _ _ _ => by exact pts_nil) (fun _ _ _ _ _ => by exact (pe_op op_and (pv 4) (pv 5))))
    (pss_cons (ps_set (i := 3) sc_and_part.nd rfl (Or.inl rfl) (pe_op op_add_str (pe_op op_add_str (pe_f (c_bracketed T) hr (by decide) rfl (pa_cons (pv 0) (pa_cons (pe_tup (pa_cons pe_str pa_nil)) pa_nil))) pe_str) (pe_f (c_bracketed T) hr (by decide) rfl (pa_cons (pv 1) (pa_cons (pe_tup (pa_cons pe_str (pa_cons pe_str pa_nil))) pa_nil)))))
    (pss_one (ps_ret (pe_k (c_Part_init T) hr (by decide) rfl (pa_cons (pv 2) (pa_cons (pv 3) (pa_cons pe_str pa_nil))))))), ?_⟩), F.binds fun _ _ _ _ _ _ us hl => match us, hl with | [_, _], _ => rfl⟩, T.g_and_part, F.kp⟩
  obtain ⟨u, v, ms, a, b, rfl, hpa, hpb, wm, hla, hlb, q⟩ := h
  obtain ⟨p, dx, tt, rfl, h1, h2⟩ := id hpa
  obtain ⟨p', dx', tt', rfl, h1', h2'⟩ := id hpb
  have hk := pow6 wm
  refine ⟨_, rfl, p, _, dx, _, _, rfl, h1, T.cl_Part, T.na_Part_truth, rfl, _, rfl, p', _, dx', _, _, rfl, h1', T.cl_Part, T.na_Part_truth, rfl, tt, tt', _, _, rfl, SqL.of h2, SqL.of h2', fun D hD => ?_⟩
  refine lc_map (walk_zip (K := K) (a := tt) (b := tt') (n := 2 ^ ms.length) (by rw [nvs_len, nvs_len, truthN_len, truthN_len, Nat.min_self])) (fun n => .int (((if (Vbenae.holds a n && Vbenae.holds b n) = true then 1 else 0 : Nat)) : Int)) (by omega) hD
    (fun H3 e3 => ⟨SqL.of (e3 _ _ h2), SqL.of (e3 _ _ h2')⟩) (fun n x2 H3 H4 C hi3 e3 y3 hC => ?_) (fun H3 e3 h3' => ?_)
  · obtain ⟨t3, u3, v3, rfl, ht3, rfl, hu3, hv3⟩ := y3
    cases (nvs_at (truthN_at hi3)).symm.trans hu3
    cases (nvs_at (truthN_at hi3)).symm.trans hv3
    refine ⟨t3, _, rfl, SqT.of upd_same, rfl, _, _, rfl, _, _, rfl, rfl, rfl, _, rfl, _, rfl, _, _, rfl, rfl, ?_⟩
    exact qi (Q := C) (and_bit _ _) (hC _ (exn ht3))
  · have et : H3 D = some (.lst (nvs (truthN ms.length (.and_ a b)))) := h3'.trans (congrArg (fun z => some (HO.lst z)) (nvs_tab _ _).symm)
    have hb1 := brk_len (decide (joint a ∈ [W "or"])) (aT ms a)
    have hb2 := brk_len (decide (joint b ∈ [W "and", W "or"])) (aT ms b)
    refine ⟨_, rfl, by show 1 ≤ sizeLine; decide, fun t ht => ?_⟩
    have e4 := exn (o := .tup [V.str "or"]) ht
    refine ⟨_, t, ms, a, [W "or"], rfl, hpa.ex (ext e3 e4), ?_, hla, _, _, rfl, rfl, ?_, ?_⟩
    · rw [upd_same]; rfl
    · rw [lit_and2, SX.S_len, SX.S_len]; exact szl (by show _ + 5 ≤ _; omega)
    refine ⟨_, rfl, by show 2 ≤ sizeLine; decide, fun t2 ht2 => ?_⟩
    have e5 := exn (o := .tup [V.str "and", V.str "or"]) ht2
    refine ⟨_, t2, ms, b, [W "and", W "or"], rfl, hpb.ex (ext (ext e3 e4) e5), ?_, hlb, _, _, rfl, rfl, ?_, ?_⟩
    · rw [upd_same]; rfl
    · rw [lit_and2, SX.S_cat, SX.S_len, SX.S_len, List.length_append]; exact szl (by show _ + 5 + _ ≤ _; omega)
    · refine ⟨_, rfl, _, rfl, ?_⟩
      refine mk_keep rfl fun x dx2 hx hd => ?_
      rw [lit_and2, SX.S_cat, SX.S_cat]
      have e6 := made_ex (C := a_Part) (fs := pfs D (brk (decide (joint a ∈ [W "or"])) (aT ms a) ++ ([32] ++ W "and" ++ [32]) ++ brk (decide (joint b ∈ [W "and", W "or"])) (aT ms b)) (W "and")) hx hd
      refine q _ _ (ext (ext (ext e3 e4) e5) e6) ⟨x, dx2, D, rfl, ?_, e6 _ _ (e5 _ _ (e4 _ _ et))⟩
      have ea : aT ms (.and_ a b) = brk (decide (joint a ∈ [W "or"])) (aT ms a) ++ ([32] ++ W "and" ++ [32]) ++ brk (decide (joint b ∈ [W "and", W "or"])) (aT ms b) := by
        rw [brk_wrap, joint_o, brk_wrap, joint_ao]
        show Vbenae.wrap _ (aT ms a) ++ [32] ++ (W "and" ++ [32] ++ Vbenae.wrap _ (aT ms b)) = _
        simp only [List.append_assoc]
      rw [ea]
      exact made_at
def sp_or_part : Sp := fun vs H Q _ => ∃ (u v : V) (ms : List (List Nat)) (a b : Ask), vs = [u, v] ∧ PartAt H ms a u ∧ PartAt H ms b v ∧ ms.length ≤ 6 ∧ (aT ms a).length ≤ 100000 ∧ (aT ms b).length ≤ 100000 ∧ NewPart H ms (.or_ a b) Q
theorem sc_or_part : FnScope ["left", "right", "truth", "spoken", "one", "other"] ["left", "right"] (defScope s_or_part) := C8.fnScope_by (by decide +kernel)
theorem c_or_part (T : Tx K mg) : Cal P w K mg base CX0 3 "or_part" a_or_part sp_or_part := by
  obtain ⟨fd, F⟩ := T.d_or_part
  refine ⟨⟨fd, ["left", "right"], F.ok sc_or_part (fun vs H Q E h => by obtain ⟨u, v, ms, a, b, rfl, _⟩ := h; rfl) (fun cdv A outer s H vs Q E hr h => ⟨_, pss_cons (ps_setLc (i := 2) (own := [("one", 4), ("other", 5)]) (g := gTup K 2 (gCons (gName 4) (gCons (gName 5) (gNil)))) rfl sc_or_part.nd rfl rfl (sw_true rfl rfl rfl (by decide +kernel)) (pi_zip rfl T.f_zip (pa_cons (pe_fld (pv 0) rfl) (pa_cons (pe_fld (pv 1) rfl) pa_nil))) (blkOk_by (own := [("one", 4), ("other", 5)]) (N := ["left", "right", "truth", "spoken", "one", "other"]) (sc := defScope s_or_part) (by decide +kernel)) (fun _ _ _ _ _ => by exact (pg_t2 (i1 := 4) (i2 := 5) rfl sc_or_part.nd rfl rfl rfl rfl)) (fun _ _ _ _ _ => by exact pts_nil) (fun _ _ _ _ _ => by exact (pe_op op_or (pv 4) (pv 5))))
    (pss_cons (ps_set (i := 3) sc_or_part.nd rfl (Or.inl rfl) (pe_op op_add_str (pe_op op_add_str (pe_fld (pv 0) rfl) pe_str) (pe_f (c_bracketed T) hr (by decide) rfl (pa_cons (pv 1) (pa_cons (pe_tup (pa_cons pe_str pa_nil)) pa_nil)))))
    (pss_one (ps_ret (pe_k (c_Part_init T) hr (by decide) rfl (pa_cons (pv 2) (pa_cons (pv 3) (pa_cons pe_str pa_nil))))))), ?_⟩), F.binds fun _ _ _ _ _ _ us hl => match us, hl with | [_, _], _ => rfl⟩, T.g_or_part, F.kp⟩
  obtain ⟨u, v, ms, a, b, rfl, hpa, hpb, wm, hla, hlb, q⟩ := h
  obtain ⟨p, dx, tt, rfl, h1, h2⟩ := id hpa
  obtain ⟨p', dx', tt', rfl, h1', h2'⟩ := id hpb
  have hk := pow6 wm
  refine ⟨_, rfl, p, _, dx, _, _, rfl, h1, T.cl_Part, T.na_Part_truth, rfl, _, rfl, p', _, dx', _, _, rfl, h1', T.cl_Part, T.na_Part_truth, rfl, tt, tt', _, _, rfl, SqL.of h2, SqL.of h2', fun D hD => ?_⟩
  refine lc_map (walk_zip (K := K) (a := tt) (b := tt') (n := 2 ^ ms.length) (by rw [nvs_len, nvs_len, truthN_len, truthN_len, Nat.min_self])) (fun n => .int (((if (Vbenae.holds a n || Vbenae.holds b n) = true then 1 else 0 : Nat)) : Int)) (by omega) hD
    (fun H3 e3 => ⟨SqL.of (e3 _ _ h2), SqL.of (e3 _ _ h2')⟩) (fun n x2 H3 H4 C hi3 e3 y3 hC => ?_) (fun H3 e3 h3' => ?_)
  · obtain ⟨t3, u3, v3, rfl, ht3, rfl, hu3, hv3⟩ := y3
    cases (nvs_at (truthN_at hi3)).symm.trans hu3
    cases (nvs_at (truthN_at hi3)).symm.trans hv3
    refine ⟨t3, _, rfl, SqT.of upd_same, rfl, _, _, rfl, _, _, rfl, rfl, rfl, _, rfl, _, rfl, _, _, rfl, rfl, ?_⟩
    exact qi (Q := C) (or_bit _ _) (hC _ (exn ht3))
  · have et : H3 D = some (.lst (nvs (truthN ms.length (.or_ a b)))) := h3'.trans (congrArg (fun z => some (HO.lst z)) (nvs_tab _ _).symm)
    have hb2 := brk_len (decide (joint b ∈ [W "or"])) (aT ms b)
    refine ⟨_, rfl, p, _, dx, _, _, rfl, e3 _ _ h1, T.cl_Part, T.na_Part_spoken, rfl, _, _, rfl, rfl, ?_, ?_⟩
    · rw [lit_or2, SX.S_len, SX.S_len]; exact szl (by show _ + 4 ≤ _; omega)
    refine ⟨_, rfl, by show 1 ≤ sizeLine; decide, fun t2 ht2 => ?_⟩
    have e5 := exn (o := .tup [V.str "or"]) ht2
    refine ⟨_, t2, ms, b, [W "or"], rfl, hpb.ex (ext e3 e5), ?_, hlb, _, _, rfl, rfl, ?_, ?_⟩
    · rw [upd_same]; rfl
    · rw [lit_or2, SX.S_cat, SX.S_len, SX.S_len, List.length_append]; exact szl (by show _ + 4 + _ ≤ _; omega)
    · refine ⟨_, rfl, _, rfl, ?_⟩
      refine mk_keep rfl fun x dx2 hx hd => ?_
      rw [lit_or2, SX.S_cat, SX.S_cat]
      have e6 := made_ex (C := a_Part) (fs := pfs D (aT ms a ++ ([32] ++ W "or" ++ [32]) ++ brk (decide (joint b ∈ [W "or"])) (aT ms b)) (W "or")) hx hd
      refine q _ _ (ext (ext e3 e5) e6) ⟨x, dx2, D, rfl, ?_, e6 _ _ (e5 _ _ et)⟩
      have ea : aT ms (.or_ a b) = aT ms a ++ ([32] ++ W "or" ++ [32]) ++ brk (decide (joint b ∈ [W "or"])) (aT ms b) := by
        rw [brk_wrap, joint_o]
        show aT ms a ++ [32] ++ (W "or" ++ [32] ++ Vbenae.wrap _ (aT ms b)) = _
        simp only [List.append_assoc]
      rw [ea]
      exact made_at
end
end N
namespace N
open PySem PySem.Spec PyProof.Rows L2 NX
open Vbenae (File Line Ask W)
/-! ### signs -/
def isSign (c : Nat) : Bool := VbenCore.isLetter c || VbenCore.isDigit c || c == 40 || c == 41
def sgn (c : Nat) : Nat := if isSign c = true then c else 63
theorem letters_at {c : Nat} (h1 : 97 ≤ c) (h2 : c ≤ 122) : atI ("abcdefghijklmnopqrstuvwxyz" : Str).cps.toList ((c : Int) - 97) = some c := by
  have key : ∀ j : Nat, j < 26 → ("abcdefghijklmnopqrstuvwxyz" : Str).cps.toList[j]? = some (97 + j) := by decide +kernel
  have e : (c : Int) - 97 = ((c - 97 : Nat) : Int) := by omega
  rw [e]
  refine atI_nat ((key (c - 97) (by omega)).trans ?_)
  congr 1; omega
theorem digits_at {c : Nat} (h1 : 48 ≤ c) (h2 : c ≤ 57) : atI ("0123456789" : Str).cps.toList ((c : Int) - 48) = some c := by
  have key : ∀ j : Nat, j < 10 → ("0123456789" : Str).cps.toList[j]? = some (48 + j) := by decide +kernel
  have e : (c : Int) - 48 = ((c - 48 : Nat) : Int) := by omega
  rw [e]
  refine atI_nat ((key (c - 48) (by omega)).trans ?_)
  congr 1; omega
theorem lit_op : ("(" : Str) = SX.S [40] := by decide +kernel
theorem lit_sh : (")" : Str) = SX.S [41] := by decide +kernel
theorem lit_qm : ("?" : Str) = SX.S [63] := by decide +kernel
theorem lit_nl : ("\n" : Str) = SX.S [10] := by decide +kernel
theorem lit_dot : ("." : Str) = SX.S [46] := by decide +kernel
section
variable {P : Program} {w : World} {K : PySem.W.Frag} {mg : Str → Option Value} {base : Heap}
theorem chain_le {lo hi c : Int} {σ : L2.St} {H : Hp} {D : Ends} {A B : TS} (h : σ[0]? = some (some (.int c))) (h1 : lo ≤ c ∧ c ≤ hi → A D σ H) (h2 : ¬ (lo ≤ c ∧ c ≤ hi) → B D σ H) :
    tIfS (tTest (tChain (rI0 fun i j => .bl (decide (i ≤ j))) (rI0 fun i j => .bl (decide (i ≤ j))) (tC (.int lo)) (tVar 0) (tC (.int hi)))) A B D σ H := by
  refine ⟨_, h, _, _, rfl, rfl, _, rfl, ?_⟩
  refine ite2 (fun c1 => ?_) (fun c1 => ?_)
  · refine ⟨_, _, rfl, rfl, _, rfl, ?_⟩
    refine ite2 (fun c2 => h1 ⟨of_decide_eq_true c1, of_decide_eq_true c2⟩) (fun c2 => h2 fun z => c2 (decide_eq_true z.2))
  · exact ⟨_, rfl, iteF (h2 fun z => c1 (decide_eq_true z.1))⟩
def sp_sign_of : Sp := fun vs H Q _ => ∃ c : Nat, vs = [.int c] ∧ Q (tx [sgn c]) H
theorem sc_sign_of : FnScope ["byte"] ["byte"] (defScope s_sign_of) := C8.fnScope_by (by decide +kernel)
theorem c_sign_of (T : Tx K mg) : Cal P w K mg base CX0 1 "sign_of" a_sign_of sp_sign_of := by
  obtain ⟨fd, F⟩ := T.d_sign_of
  refine ⟨⟨fd, ["byte"], F.ok sc_sign_of (fun vs H Q E h => by obtain ⟨c, rfl, _⟩ := h; rfl) (fun cdv A outer s H vs Q E hr h => ⟨_, pss_cons (ps_if (pt_chain op_le op_le pe_int (pv 0) pe_int) (pss_one (ps_ret (pe_ix ix_str (C8.pe_gc rfl T.k_LETTERS) (pe_op op_sub (pv 0) pe_int) (fun _ _ => rfl)))) pss_nil)
    (pss_cons (ps_if (pt_chain op_le op_le pe_int (pv 0) pe_int) (pss_one (ps_ret (pe_ix ix_str (C8.pe_gc rfl T.k_DIGITS) (pe_op op_sub (pv 0) pe_int) (fun _ _ => rfl)))) pss_nil)
    (pss_cons (ps_if (pt_cmpR op_eq (pv 0) pe_int (nomark _)) (pss_one (ps_ret pe_str)) pss_nil)
    (pss_cons (ps_if (pt_cmpR op_eq (pv 0) pe_int (nomark _)) (pss_one (ps_ret pe_str)) pss_nil)
    (pss_one (ps_ret (C8.pe_gc rfl T.k_STRANGE)))))), ?_⟩), F.binds fun _ _ _ _ _ _ us hl => match us, hl with | [_], _ => rfl⟩, T.g_sign_of, F.kp⟩
  obtain ⟨c, rfl, q⟩ := h
  refine chain_le (c := (c : Int)) rfl (fun hl => ?_) (fun hl => ?_)
  · have e : sgn c = c := by
      unfold sgn isSign VbenCore.isLetter
      rw [if_pos]
      simp; omega
    rw [e] at q
    exact ⟨_, rfl, _, _, rfl, rfl, _, _, _, rfl, rfl, szl (by decide), letters_at (by omega) (by omega), q⟩
  refine chain_le (c := (c : Int)) rfl (fun hd => ?_) (fun hd => ?_)
  · have e : sgn c = c := by
      unfold sgn isSign VbenCore.isLetter VbenCore.isDigit
      rw [if_pos]
      simp; omega
    rw [e] at q
    exact ⟨_, rfl, _, _, rfl, rfl, _, _, _, rfl, rfl, szl (by decide), digits_at (by omega) (by omega), q⟩
  have nl : VbenCore.isLetter c = false := by simp [VbenCore.isLetter]; omega
  have nd : VbenCore.isDigit c = false := by simp [VbenCore.isDigit]; omega
  refine ⟨_, rfl, rfl, _, rfl, ?_⟩
  by_cases c1 : c = 40
  · subst c1
    refine ifT (by rfl) ?_
    exact qs (Q := Q) lit_op q
  refine ifF (fun z => c1 (by have := V.int.inj z; omega)) ?_
  refine ⟨_, rfl, rfl, _, rfl, ?_⟩
  by_cases c2 : c = 41
  · subst c2
    refine ifT (by rfl) ?_
    exact qs (Q := Q) lit_sh q
  refine ifF (fun z => c2 (by have := V.int.inj z; omega)) ?_
  refine qs (Q := Q) lit_qm ?_
  have e : sgn c = 63 := by
    unfold sgn isSign
    rw [nl, nd, if_neg]
    simp [c1, c2]
  rw [e] at q
  exact q
/-! ### joins -/
theorem join_e : ∀ l : List (List Nat), TL.joinL [] l = l.flatten
  | [] => rfl
  | [x] => by show x = _; simp
  | x :: y :: r => by
    have ih := join_e (y :: r)
    show x ++ ([] ++ TL.joinL [] (y :: r)) = _
    rw [ih]
    simp
theorem flat_one (l : List Nat) (g : Nat → Nat) : (l.map fun c => [g c]).flatten = l.map g := by
  induction l with
  | nil => rfl
  | cons a r ih => rw [List.map_cons, List.flatten_cons, ih] <;> rfl
def sp_spelled : Sp := fun vs H Q _ => ∃ (a : Addr) (l : List Nat), vs = [.ref a] ∧ H a = some (.lst (nvs l)) ∧ l.length ≤ 3000 ∧ ∀ H', Ex H H' → Q (tx (l.map sgn)) H'
theorem sc_spelled : FnScope ["part", "byte"] ["part"] (defScope s_spelled) := C8.fnScope_by (by decide +kernel)
theorem c_spelled (T : Tx K mg) : Cal P w K mg base CX0 2 "spelled" a_spelled sp_spelled := by
  obtain ⟨fd, F⟩ := T.d_spelled
  refine ⟨⟨fd, ["part"], F.ok sc_spelled (fun vs H Q E h => by obtain ⟨a, l, rfl, _⟩ := h; rfl) (fun cdv A outer s H vs Q E hr h => ⟨_, pss_one (ps_ret (pe_join pe_str (by exact (pe_lc (own := [("byte", 1)]) (g := gName 1) rfl sc_spelled.nd (pi_list (pv 0)) (blkOk_by (own := [("byte", 1)]) (N := ["part", "byte"]) (sc := defScope s_spelled) (by decide +kernel)) (fun _ _ _ _ _ => by exact (pg_name (i := 1) sc_spelled.nd rfl (Or.inl rfl))) (fun _ _ _ _ _ => by exact pts_nil) (fun _ _ _ _ _ => by exact (pe_f (c_sign_of T) hr (by decide) rfl (pa_cons (pv 1) pa_nil))))))), ?_⟩), F.binds fun _ _ _ _ _ _ us hl => match us, hl with | [_], _ => rfl⟩, T.g_spelled, F.kp⟩
  obtain ⟨a, l, rfl, ha, hl, q⟩ := h
  have hn := nvs_len l
  refine ⟨⟨_, rfl⟩, _, rfl, a, rfl, ⟨_, SqL.of ha⟩, fun D hD => ?_⟩
  refine lc_map (walk_list (K := K) (a := a) (xs := nvs l)) (fun i => l[i]?.elim .non fun c => tx [sgn c]) (by omega) hD (fun H2 e2 => SqL.of (e2 _ _ ha)) (fun i x H2 H' C hi e2 y hC => ?_) (fun H2 e2 h2' => ?_)
  · obtain ⟨rfl, hx⟩ := y
    rw [List.getElem?_map] at hx
    obtain ⟨c, hc, rfl⟩ := Option.map_eq_some_iff.mp hx
    refine ⟨rfl, _, rfl, c, rfl, ?_⟩
    have := hC _ exr
    rw [hc] at this
    exact this
  · rw [hn, range_map] at h2'
    have e : l.map (fun c => tx [sgn c]) = ((l.map fun c => [sgn c]).map SX.S).map V.str := by
      rw [List.map_map, List.map_map] <;> rfl
    rw [e] at h2'
    refine ⟨_, D, _, rfl, rfl, .inl (SqL.of h2'), ?_, ?_⟩
    · rw [SX.lens, List.map_map, lit_e, SX.S_len, List.length_nil, Nat.mul_zero, Nat.add_zero]
      have : (l.map (List.length ∘ fun c => [sgn c])).sum = l.length := by
        clear e h2' hD ha q hn hl
        induction l with
        | nil => rfl
        | cons a r ih => rw [List.map_cons, List.sum_cons, ih, List.length_cons]; show 1 + _ = _; omega
      show (l.map (List.length ∘ fun c => [sgn c])).sum ≤ 16777216
      omega
    · refine qs (Q := Q) ?_ (q _ e2)
      rw [lit_e, SX.join_S, join_e, flat_one]
end
theorem nvs_take (n : Nat) (l : List Nat) : nvs (l.take n) = (nvs l).take n := List.map_take ..
theorem nvs_drop (n : Nat) (l : List Nat) : nvs (l.drop n) = (nvs l).drop n := List.map_drop ..
/-! ### words with places -/
open VbenCore (Word)
/-- no blank, no line's end -/
def plainB (l : List Nat) : Bool := l.all fun c => c != 32 && c != 10
theorem cut_ne (p : Nat) (l : List Nat) : VbenCore.cut p l ≠ [] := by
  cases l with
  | nil => simp [VbenCore.cut]
  | cons c r =>
    rw [VbenCore.cut]
    split
    · simp
    split
    · simp
    · split <;> simp
theorem cut_plain (c : Nat) (r : List Nat) (p q : Nat) (w : List Nat) (l : List Word) (h1 : c ≠ 32) (h2 : c ≠ 10) (h : VbenCore.cut (p + 1) r = (q, w) :: l) : VbenCore.cut p (c :: r) = (p, c :: w) :: l := by
  rw [VbenCore.cut, if_neg h1, if_neg h2, h]
theorem cut_end : ∀ (u : List Nat) (p : Nat), plainB u = true → VbenCore.cut p u = [(p, u)]
  | [], p, _ => rfl
  | c :: u, p, h => by
    unfold plainB at h
    rw [List.all_cons, Bool.and_eq_true] at h
    have hc : c ≠ 32 ∧ c ≠ 10 := by simpa using h.1
    exact cut_plain c u p (p + 1) u [] hc.1 hc.2 (cut_end u (p + 1) h.2)
theorem cut_blank : ∀ (u : List Nat) (p : Nat) (r : List Nat), plainB u = true → VbenCore.cut p (u ++ 32 :: r) = (p, u) :: VbenCore.cut (p + u.length + 1) r
  | [], p, r, _ => by
    show VbenCore.cut p (32 :: r) = _
    rw [VbenCore.cut, if_pos rfl] <;> rfl
  | c :: u, p, r, h => by
    unfold plainB at h
    rw [List.all_cons, Bool.and_eq_true] at h
    have hc : c ≠ 32 ∧ c ≠ 10 := by simpa using h.1
    have ih := cut_blank u (p + 1) r h.2
    have e : p + 1 + u.length + 1 = p + (c :: u).length + 1 := by rw [List.length_cons]; omega
    rw [e] at ih
    exact cut_plain c (u ++ 32 :: r) p (p + 1) u _ hc.1 hc.2 ih
theorem cut_feed : ∀ (u : List Nat) (p : Nat) (r : List Nat), plainB u = true → VbenCore.cut p (u ++ 10 :: r) = (p, u) :: (p + u.length, [10]) :: VbenCore.cut (p + u.length + 1) r
  | [], p, r, _ => by
    show VbenCore.cut p (10 :: r) = _
    rw [VbenCore.cut, if_neg (by decide), if_pos rfl] <;> rfl
  | c :: u, p, r, h => by
    unfold plainB at h
    rw [List.all_cons, Bool.and_eq_true] at h
    have hc : c ≠ 32 ∧ c ≠ 10 := by simpa using h.1
    have ih := cut_feed u (p + 1) r h.2
    have e : p + 1 + u.length + 1 = p + (c :: u).length + 1 := by rw [List.length_cons]; omega
    have e2 : p + 1 + u.length = p + (c :: u).length := by rw [List.length_cons]; omega
    rw [e, e2] at ih
    exact cut_plain c (u ++ 10 :: r) p (p + 1) u _ hc.1 hc.2 ih
/-- a word as it is spelled, with its place -/
def encP (w : Word) : List Nat × Nat := (if w.2 = [10] then [10] else w.2.map sgn, w.1)
def WordAt (H : Hp) (x : List Nat × Nat) (v : V) : Prop := ∃ t : Addr, v = .ref t ∧ H t = some (.tup [tx x.1, .int (x.2 : Nat)])
theorem WordAt.nl {H H' : Hp} (e : Nl H H') {x : List Nat × Nat} {v : V} (h : WordAt H x v) : WordAt H' x v := by
  obtain ⟨t, rfl, h⟩ := h
  exact ⟨t, rfl, e _ _ (fun _ z => by cases z) h⟩
theorem WordAt.fr {C : Addr} {H H' : Hp} (e : Fr C H H') {x : List Nat × Nat} {v : V} (h : WordAt H x v) : WordAt H' x v := by
  obtain ⟨t, rfl, h⟩ := h
  exact ⟨t, rfl, e _ _ (fun _ _ z => by cases z) h⟩
theorem al_push {H H' : Hp} {p t : Addr} {xs : List (List Nat × Nat)} {ys : List V} {x : List Nat × Nat} (nl : Nl H H') (hal : Al (WordAt H) xs ys) (ht : H' t = some (.tup [tx x.1, .int (x.2 : Nat)])) (hp : H' p = some (.lst ys)) :
    Al (WordAt (upd H' p (.lst (ys ++ [.ref t])))) (xs ++ [x]) (ys ++ [.ref t]) := by
  refine (hal.imp fun _ _ z => z.nl (nlt nl (nlu hp))).snoc ⟨t, rfl, ?_⟩
  rw [upd_ne (ne_of ht hp (by intro z; cases z))]
  exact ht
theorem plain_ten {u : List Nat} (h : plainB u = true) : u ≠ [10] := fun z => by
  rw [z] at h
  cases h
section
variable {P : Program} {w : World} {K : PySem.W.Frag} {mg : Str → Option Value} {base : Heap}
theorem or_eq {σ : L2.St} {H : Hp} {i : Nat} {x m n : Int} {Q : Bool → Hp → Prop} (h : σ[i]? = some (some (.int x))) (h1 : x = m ∨ x = n → Q true H) (h2 : ¬ (x = m ∨ x = n) → Q false H) :
    tOr (tTest (tOp rEq (tVar i) (tC (.int m)))) (tTest (tOp rEq (tVar i) (tC (.int n)))) σ H Q := by
  refine ⟨_, h, rfl, _, rfl, ?_⟩
  refine ite2 (fun c => h1 (.inl (V.int.inj (of_decide_eq_true c)))) (fun c => ?_)
  refine ⟨_, h, rfl, _, rfl, ?_⟩
  have c1 : ¬ x = m := fun z => c (decide_eq_true (by rw [z]))
  by_cases d : x = n
  · rw [decide_eq_true (by rw [d])]
    exact h1 (.inr d)
  · rw [decide_eq_false (fun z => d (V.int.inj z))]
    exact h2 fun z => z.elim c1 d
def sp_words_of : Sp := fun vs H Q _ => ∃ (a : Addr) (b : List Nat), vs = [.ref a] ∧ H a = some (.lst (nvs b)) ∧ b.length ≤ 3000 ∧
  ∀ H' p ys, Ex H H' → H' p = some (.lst ys) → Al (WordAt H') ((VbenCore.cut 0 b).map encP ++ [([46], b.length)]) ys → Q (.ref p) H'
theorem sc_words_of : FnScope ["text", "words", "begin", "place", "byte"] ["text"] (defScope s_words_of) := C8.fnScope_by (by decide +kernel)
theorem c_words_of (T : Tx K mg) : Cal P w K mg base CX0 3 "words_of" a_words_of sp_words_of := by
  obtain ⟨fd, F⟩ := T.d_words_of
  refine ⟨⟨fd, ["text"], F.ok sc_words_of (fun vs H Q E h => by obtain ⟨a, b, rfl, _⟩ := h; rfl) (fun cdv A outer s H vs Q E hr h => ⟨_, pss_cons (ps_set (i := 1) sc_words_of.nd rfl (Or.inl rfl) (pe_lst pa_nil))
    (pss_cons (ps_set (i := 2) sc_words_of.nd rfl (Or.inl rfl) pe_int)
    (pss_cons (ps_for PassesOwn.never rfl (pi_enum rfl T.f_enumerate (pa_cons (pv 0) pa_nil)) (pg_tup rfl (pgs_cons (pg_name (i := 3) sc_words_of.nd rfl (Or.inl rfl)) (pgs_cons (pg_name (i := 4) sc_words_of.nd rfl (Or.inl rfl)) pgs_nil)))
    (pss_cons (ps_if (PW.pt (pw_or (pt_cmpR op_eq (pv 4) (C8.pe_gc rfl T.k_BLANK) (nomark _)) (pw_or1 (pt_cmpR op_eq (pv 4) (C8.pe_gc rfl T.k_LINE_FEED) (nomark _))))) (pss_cons (ps_expr (pe_bm PySem.F.plainAttrs_list PySem.F.slot_list_append PySem.F.type_list_append mt_append (pv 1) (pa_cons (pe_tup (pa_cons (pe_f (c_spelled T) hr (by decide) rfl (pa_cons (pe_slice sl_list (pv 0) (po_some (pv 2)) (po_some (pv 3))) pa_nil)) (pa_cons (pv 2) pa_nil))) pa_nil)))
    (pss_one (ps_set (i := 2) sc_words_of.nd rfl (Or.inl rfl) (pe_op op_add (pv 3) pe_int)))) pss_nil)
    (pss_one (ps_if (pt_cmpR op_eq (pv 4) (C8.pe_gc rfl T.k_LINE_FEED) (nomark _)) (pss_one (ps_expr (pe_bm PySem.F.plainAttrs_list PySem.F.slot_list_append PySem.F.type_list_append mt_append (pv 1) (pa_cons (pe_tup (pa_cons (C8.pe_gc rfl T.k_LINE_END) (pa_cons (pv 3) pa_nil))) pa_nil)))) pss_nil))))
    (pss_cons (ps_expr (pe_bm PySem.F.plainAttrs_list PySem.F.slot_list_append PySem.F.type_list_append mt_append (pv 1) (pa_cons (pe_tup (pa_cons (pe_f (c_spelled T) hr (by decide) rfl (pa_cons (pe_slice sl_list (pv 0) (po_some (pv 2)) po_none) pa_nil)) (pa_cons (pv 2) pa_nil))) pa_nil)))
    (pss_cons (ps_expr (pe_bm PySem.F.plainAttrs_list PySem.F.slot_list_append PySem.F.type_list_append mt_append (pv 1) (pa_cons (pe_tup (pa_cons (C8.pe_gc rfl T.k_TEXT_END) (pa_cons (pe_callB call_len rfl T.f_len PySem.boot_len (pa_cons (pv 0) pa_nil)) pa_nil))) pa_nil)))
    (pss_one (ps_ret (pv 1))))))), ?_⟩), F.binds fun _ _ _ _ _ _ us hl => match us, hl with | [_], _ => rfl⟩, T.g_words_of, F.kp⟩
  obtain ⟨a, b, rfl, ha, hl, q⟩ := h
  have hn := nvs_len b
  refine ⟨szl (Nat.zero_le _), fun p hp => ?_⟩
  have e0 := exn (o := .lst []) hp
  refine ⟨_, rfl, a, _, rfl, SqL.of (e0 _ _ ha), ?_⟩
  refine for_it (walk_enum (K := K) (a := a) (xs := nvs b)) (fun i σ H' => ∃ (bg : Nat) (u v : Option V) (acc : List Word) (ys : List V), σ = [some (.ref a), some (.ref p), some (.int bg), u, v] ∧ Ex H H' ∧ H' p = some (.lst ys) ∧ ys.length ≤ 2 * i ∧
      Al (WordAt H') (acc.map encP) ys ∧ bg ≤ i ∧ acc ++ VbenCore.cut bg (b.drop bg) = VbenCore.cut 0 b ∧ plainB ((b.drop bg).take (i - bg)) = true)
    ⟨0, _, _, [], [], rfl, e0, upd_same, by simp, trivial, Nat.le_refl _, rfl, by simp [plainB]⟩ (fun i σ H' _ ⟨_, _, _, _, _, _, e, _⟩ => SqL.of (e _ _ ha)) ?_ ?_
  · rintro i y σ H' H2 hi ⟨bg, u, v, acc, ys, rfl, e, hys, hyl, hal, hbg, hcut, hpl⟩ ⟨t, u1, v1, rfl, ht, rfl, hu, hv⟩
    cases hu
    rw [hn] at hi
    have hc : b[i]? = some b[i] := List.getElem?_eq_getElem hi
    cases (nvs_at hc).symm.trans hv
    have et := exn (o := .tup [.int (i : Nat), .int ((b[i] : Nat) : Int)]) ht
    have e2 := ext e et
    have hys2 := et _ _ hys
    have dsplit : b.drop bg = (b.drop bg).take (i - bg) ++ b[i] :: b.drop (i + 1) := by
      have h1 : (b.drop bg).drop (i - bg) = b[i] :: b.drop (i + 1) := by
        rw [List.drop_drop, show bg + (i - bg) = i by omega]
        exact List.drop_eq_getElem_cons hi
      rw [← h1, List.take_append_drop]
    have ulen : ((b.drop bg).take (i - bg)).length = i - bg := by
      rw [List.length_take, List.length_drop]; omega
    have pend : bg + ((b.drop bg).take (i - bg)).length + 1 = i + 1 := by rw [ulen]; omega
    refine ⟨t, _, rfl, SqT.of upd_same, rfl, _, _, rfl, _, _, rfl, rfl, ?_⟩
    refine or_eq (x := ((b[i] : Nat) : Int)) rfl (fun c => iteT ?_) (fun c => iteF ?_)
    · -- a word ends here
      refine ⟨_, rfl, .inl ⟨rfl, _, SqL.of hys2⟩, _, rfl, _, rfl, _, rfl, _, rfl, _, rfl, _, _, rfl, SqL.of (e2 _ _ ha), fun p2 hp2 => ?_⟩
      have ec : cutV (nvs b) (some ((bg : Nat) : Int)) (some ((i : Nat) : Int)) = nvs ((b.drop bg).take (i - bg)) := by
        rw [cut_mid hbg (by rw [hn]; omega), ← nvs_drop, ← nvs_take]
      rw [ec]
      have e3 := exn (o := .lst (nvs ((b.drop bg).take (i - bg)))) hp2
      refine ⟨p2, _, rfl, upd_same, by rw [ulen]; omega, fun H3 e4 => ?_⟩
      refine ⟨_, rfl, by show 2 ≤ sizeLine; decide, fun t2 ht2 => ?_⟩
      have e5 := exn (o := .tup [tx (((b.drop bg).take (i - bg)).map sgn), .int ((bg : Nat) : Int)]) ht2
      have e6 := ext e2 (ext (ext e3 e4) e5)
      have hys3 := (ext (ext e3 e4) e5) _ _ hys2
      refine ⟨p, ys, _, rfl, rfl, hys3, szs (by omega), ?_⟩
      have eP : encP (bg, (b.drop bg).take (i - bg)) = (((b.drop bg).take (i - bg)).map sgn, bg) := by
        unfold encP
        rw [if_neg (plain_ten hpl)]
      have e7 : Ex H (upd _ p (.lst (ys ++ [V.ref t2]))) := exm e6 hp
      have al7 := al_push (x := encP (bg, (b.drop bg).take (i - bg))) (nlx (ext et (ext (ext e3 e4) e5))) hal (by rw [eP]; exact upd_same (a := t2)) hys3
      refine ⟨_, rfl, _, _, rfl, rfl, ?_⟩
      refine ⟨_, rfl, rfl, _, rfl, ?_⟩
      by_cases c10 : b[i] = 10
      · refine ifT (by rw [c10]; rfl) ?_
        refine ⟨_, rfl, .inl ⟨rfl, _, SqL.of upd_same⟩, _, rfl, by show 2 ≤ sizeLine; decide, fun t3 ht3 => ?_⟩
        have e8 := exn (o := .tup [V.str "\n", .int ((i : Nat) : Int)]) ht3
        refine ⟨p, _, _, rfl, rfl, e8 _ _ upd_same, szs (by rw [List.length_append, List.length_singleton]; omega), ?_⟩
        have al9 := al_push (x := encP (i, [10])) (nlx e8) al7 (by exact upd_same (a := t3)) (e8 _ _ upd_same)
        refine ⟨i + 1, _, _, acc ++ [(bg, (b.drop bg).take (i - bg))] ++ [(i, [10])], _, rfl, exm (ext e7 e8) hp, upd_same, by simp only [List.length_append, List.length_singleton]; omega, ?_, Nat.le_refl _, ?_, by simp [plainB]⟩
        · rw [List.map_append, List.map_append]
          exact al9
        · have hc3 := cut_feed _ bg (b.drop (i + 1)) hpl
          rw [pend, ulen, show bg + (i - bg) = i by omega, ← c10, ← dsplit] at hc3
          rw [← hcut, hc3, c10]
          simp only [List.append_assoc, List.cons_append, List.nil_append]
      · refine ifF (fun z => c10 (by have := V.int.inj z; omega)) ?_
        have c32 : b[i] = 32 := by omega
        refine ⟨i + 1, _, _, acc ++ [(bg, (b.drop bg).take (i - bg))], _, rfl, e7, upd_same, by simp only [List.length_append, List.length_singleton]; omega, (by rw [List.map_append]; exact al7), Nat.le_refl _, ?_, by simp [plainB]⟩
        have hc3 := cut_blank _ bg (b.drop (i + 1)) hpl
        rw [pend, ← c32, ← dsplit] at hc3
        rw [← hcut, hc3]
        simp only [List.append_assoc, List.cons_append, List.nil_append]
    · have c1 : b[i] ≠ 32 ∧ b[i] ≠ 10 := by constructor <;> (intro z; exact c (by omega))
      refine ⟨_, rfl, rfl, _, rfl, ?_⟩
      refine ifF (fun z => c1.2 (by have := V.int.inj z; omega)) ?_
      refine ⟨bg, _, _, acc, ys, rfl, e2, hys2, by omega, hal.imp fun _ _ z => z.nl (nlx et), by omega, hcut, ?_⟩
      have : (b.drop bg).take (i + 1 - bg) = (b.drop bg).take (i - bg) ++ [b[i]] := by
        rw [show i + 1 - bg = (i - bg) + 1 by omega]
        refine take_more ?_
        rw [List.getElem?_drop, show bg + (i - bg) = i by omega]
        exact hc
      rw [this]
      unfold plainB at hpl ⊢
      rw [List.all_append, hpl]
      simp [c1.1, c1.2]
  · rintro σ H' ⟨bg, u, v, acc, ys, rfl, e, hys, hyl, hal, hbg, hcut, hpl⟩
    rw [hn] at hyl hbg hpl
    have hall : (b.drop bg).take (b.length - bg) = b.drop bg := List.take_of_length_le (by rw [List.length_drop]; exact Nat.le_refl _)
    rw [hall] at hpl
    refine ⟨_, rfl, .inl ⟨rfl, _, SqL.of hys⟩, _, rfl, _, rfl, _, rfl, _, _, rfl, SqL.of (e _ _ ha), fun p2 hp2 => ?_⟩
    have ec : cutV (nvs b) (some ((bg : Nat) : Int)) none = nvs (b.drop bg) := by
      rw [cut_from (by rw [hn]; omega), ← nvs_drop]
    rw [ec]
    have e3 := exn (o := .lst (nvs (b.drop bg))) hp2
    refine ⟨p2, _, rfl, upd_same, by rw [List.length_drop]; omega, fun H3 e4 => ?_⟩
    refine ⟨_, rfl, by show 2 ≤ sizeLine; decide, fun t2 ht2 => ?_⟩
    have e5 := exn (o := .tup [tx ((b.drop bg).map sgn), .int ((bg : Nat) : Int)]) ht2
    have e6 := ext e (ext (ext e3 e4) e5)
    have hys3 := (ext (ext e3 e4) e5) _ _ hys
    refine ⟨p, ys, _, rfl, rfl, hys3, szs (by omega), ?_⟩
    have eP : encP (bg, b.drop bg) = ((b.drop bg).map sgn, bg) := by
      unfold encP
      rw [if_neg (plain_ten hpl)]
    have e7 : Ex H (upd _ p (.lst (ys ++ [V.ref t2]))) := exm e6 hp
    have al7 := al_push (x := encP (bg, b.drop bg)) (nlx (ext (ext e3 e4) e5)) hal (by rw [eP]; exact upd_same (a := t2)) hys3
    have ecut : (VbenCore.cut 0 b).map encP = acc.map encP ++ [encP (bg, b.drop bg)] := by
      rw [← hcut, cut_end _ _ hpl, List.map_append] <;> rfl
    rw [← ecut] at al7
    refine ⟨_, rfl, .inl ⟨rfl, _, SqL.of upd_same⟩, _, rfl, _, _, rfl, .inl ⟨_, SqL.of (e7 _ _ ha), rfl⟩, by show 2 ≤ sizeLine; decide, fun t3 ht3 => ?_⟩
    have e8 := exn (o := .tup [V.str ".", .int (((nvs b).length : Nat) : Int)]) ht3
    refine ⟨p, _, _, rfl, rfl, e8 _ _ upd_same, szs (by rw [List.length_append, List.length_singleton]; omega), ?_⟩
    have al9 := al_push (x := ([46], b.length)) (nlx e8) al7 (by rw [← hn]; exact upd_same (a := t3)) (e8 _ _ upd_same)
    exact ⟨_, rfl, q _ _ _ (exm (ext e7 e8) hp) upd_same al9⟩
end
end N
namespace N
open PySem PySem.Spec PyProof.Rows L2 NX
open Vbenae (File Line Ask W)
open VbenCore (Word)
/-! ### a cursor -/
def CurI (H : Hp) (c : Addr) (all : List (List Nat × Nat)) (i : Nat) : Prop := ∃ (dx wl : Addr) (ys : List V), H c = some (.ins a_Cursor dx [("words", .ref wl), ("at", .int (i : Nat))]) ∧ H wl = some (.lst ys) ∧ Al (WordAt H) all ys
/-- it stands ahead of these words; the text's end is at e -/
def Cur (H : Hp) (c : Addr) (e : Nat) (ws : List Word) : Prop := ∃ all i, CurI H c all i ∧ all.drop i = ws.map encP ++ [([46], e)]
def hdP (e : Nat) : List Word → List Nat × Nat
  | [] => ([46], e)
  | w :: _ => encP w
theorem hdP_place (e : Nat) (ws : List Word) : (hdP e ws).2 = VbenCore.placeOf e ws := by cases ws <;> rfl
theorem drop_head {α : Type} {l r : List α} {i : Nat} {x : α} (h : l.drop i = x :: r) : l[i]? = some x := by
  have := congrArg (fun z => z[0]?) h
  simpa using this
theorem Cur.head {H : Hp} {c : Addr} {e : Nat} {ws : List Word} (h : Cur H c e ws) : ∃ (dx wl : Addr) (ys : List V) (i : Nat) (t : Addr), H c = some (.ins a_Cursor dx [("words", .ref wl), ("at", .int (i : Nat))]) ∧ H wl = some (.lst ys) ∧ ys[i]? = some (.ref t) ∧ H t = some (.tup [tx (hdP e ws).1, .int ((hdP e ws).2 : Nat)]) := by
  obtain ⟨all, i, ⟨dx, wl, ys, h1, h2, h3⟩, hd⟩ := h
  have : all.drop i = hdP e ws :: (match ws with | [] => [] | _ :: r => r.map encP ++ [([46], e)]) := by
    cases ws <;> exact hd
  obtain ⟨v, hv, t, rfl, ht⟩ := h3.get (drop_head this)
  exact ⟨dx, wl, ys, i, t, h1, h2, hv, ht⟩
theorem Cur.ex {H H' : Hp} {c : Addr} {e : Nat} {ws : List Word} (x : Ex H H') (h : Cur H c e ws) : Cur H' c e ws := by
  obtain ⟨all, i, ⟨dx, wl, ys, h1, h2, h3⟩, hd⟩ := h
  exact ⟨all, i, ⟨dx, wl, ys, x _ _ h1, x _ _ h2, h3.imp fun _ _ z => z.nl (nlx x)⟩, hd⟩
/-- .. with its list of words -/
def CurW (H : Hp) (c wl : Addr) (e : Nat) (ws : List Word) : Prop := ∃ (all : List (List Nat × Nat)) (i : Nat) (dx : Addr) (ys : List V), H c = some (.ins a_Cursor dx [("words", .ref wl), ("at", .int (i : Nat))]) ∧ H wl = some (.lst ys) ∧ Al (WordAt H) all ys ∧ all.drop i = ws.map encP ++ [([46], e)]
theorem CurW.cur {H : Hp} {c wl : Addr} {e : Nat} {ws : List Word} (h : CurW H c wl e ws) : Cur H c e ws := by
  obtain ⟨all, i, dx, ys, h1, h2, h3, h4⟩ := h
  exact ⟨all, i, ⟨dx, wl, ys, h1, h2, h3⟩, h4⟩
theorem CurW.ex {H H' : Hp} {c wl : Addr} {e : Nat} {ws : List Word} (x : Ex H H') (h : CurW H c wl e ws) : CurW H' c wl e ws := by
  obtain ⟨all, i, dx, ys, h1, h2, h3, h4⟩ := h
  exact ⟨all, i, dx, ys, x _ _ h1, x _ _ h2, h3.imp fun _ _ z => z.nl (nlx x), h4⟩
/-- another list changes -/
theorem CurW.put {H : Hp} {c wl p : Addr} {e : Nat} {ws : List Word} {xs ys : List V} (h : CurW H c wl e ws) (hp : H p = some (.lst xs)) (hn : wl ≠ p) : CurW (upd H p (.lst ys)) c wl e ws := by
  obtain ⟨all, i, dx, us, h1, h2, h3, h4⟩ := h
  exact ⟨all, i, dx, us, (upd_ne (ne_of h1 hp (by intro z; cases z))).trans h1, (upd_ne hn).trans h2, h3.imp fun _ _ z => z.nl (nlu hp), h4⟩
theorem CurW.lst {H : Hp} {c wl : Addr} {e : Nat} {ws : List Word} (h : CurW H c wl e ws) : ∃ ys, H wl = some (.lst ys) := by
  obtain ⟨all, i, dx, us, h1, h2, h3, h4⟩ := h
  exact ⟨us, h2⟩
theorem frm {C : Addr} {H H1 H' : Hp} {p : Addr} {o : HO} (e : Fr C H H1) (hp : H1 p = none) (e2 : Fr C H1 H') : Fr C H (upd H' p o) := fun a u n h => by
  have h1 := e a u n h
  rw [upd_ne (ne_of_none h1 hp)]
  exact e2 a u n h1
/-- a fault at this place leaves -/
def Rt (H : Hp) (E : XK) (p : Nat) : Prop := ∀ (d : Addr) (H' : Hp), Fr a_Cursor H H' → H' d = some (.xd [("place", .int (p : Nat)), ("number", .int (-1000 - (p : Int)))]) → E (.ref a_TextFault) (some d) H'
theorem Rt.fr {H H' : Hp} {E : XK} {p : Nat} (h : Rt H E p) (e : Fr a_Cursor H H') : Rt H' E p := fun d H2 e2 hd => h d H2 (frt e e2) hd
theorem Rt.ex {H H' : Hp} {E : XK} {p : Nat} (h : Rt H E p) (e : Ex H H') : Rt H' E p := h.fr (frx e)
theorem Rt.go {H : Hp} {E : XK} {p : Nat} (h : Rt H E p) : ∀ d, H d = none → E (.ref a_TextFault) (some d) (upd H d (.xd [("place", .int (p : Nat)), ("number", .int (-1000 - (p : Int)))])) := fun d hd => h d _ (frx (exn hd)) upd_same
section
variable {P : Program} {w : World} {K : PySem.W.Frag} {mg : Str → Option Value} {base : Heap}
def sp_Cursor : Sp := fun vs H Q _ => ∃ (x dx a : Addr) (b : List Nat), vs = [.ref x, .ref a] ∧ H x = some (.ins a_Cursor dx []) ∧ H a = some (.lst (nvs b)) ∧ b.length ≤ 3000 ∧
  ∀ H1 wl ys, Ex H H1 → H1 wl = some (.lst ys) → Al (WordAt H1) ((VbenCore.cut 0 b).map encP ++ [([46], b.length)]) ys → Q .non (upd H1 x (.ins a_Cursor dx [("words", .ref wl), ("at", .int ((0 : Nat) : Int))]))
theorem sc_Cursor_init : FnScope ["self", "text"] ["self", "text"] (defScope s_Cursor_init) := C8.fnScope_by (by decide +kernel)
theorem c_Cursor_init (T : Tx K mg) : Mak P w K mg base 4 "Cursor" a_Cursor sp_Cursor := by
  obtain ⟨fd, F⟩ := T.d_Cursor_init
  refine ⟨⟨_, fd, ["self", "text"], T.mk_Cursor, F.ok sc_Cursor_init (fun vs H Q E h => by obtain ⟨x, dx, a, b, rfl, _⟩ := h; rfl) (fun cdv A outer s H vs Q E hr h => ⟨_, pss_cons (ps_fld (pv 0) (pe_f (c_words_of T) hr (by decide) rfl (pa_cons (pv 1) pa_nil)) rfl)
    (pss_one (ps_fld (pv 0) pe_int rfl)), ?_⟩), F.binds fun _ _ _ _ _ _ us hl => match us, hl with | [_, _], _ => rfl⟩, T.g_Cursor⟩
  obtain ⟨x, dx, a, b, rfl, hx, ha, hl, q⟩ := h
  refine ⟨_, rfl, a, b, rfl, ha, hl, fun H1 wl ys e1 h1 h2 => ?_⟩
  refine ⟨_, rfl, x, _, dx, _, rfl, e1 _ _ hx, T.cl_Cursor, T.na_Cursor_words, (by show 0 < 1000; decide), ?_⟩
  refine ⟨_, rfl, x, _, dx, _, rfl, upd_same, T.cl_Cursor, T.na_Cursor_at, (by show 1 < 1000; decide), ?_⟩
  rw [upd_upd]
  exact q H1 wl ys e1 h1 h2
/-- Cursor(text) -/
theorem mk_cur {a : Addr} {b : List Nat} {H : Hp} {Q : Addr → Hp → Prop} {E : XK} (ha : H a = some (.lst (nvs b))) (hl : b.length ≤ 3000) (q : ∀ H' c wl, Ex H H' → CurW H' c wl b.length (VbenCore.cut 0 b) → Q c H') :
    ∀ x dx, H x = none → H dx = none → dx ≠ x → sp_Cursor (.ref x :: ([.ref a] ++ [])) (upd (upd H dx (.own x)) x (.ins a_Cursor dx [])) (fun v H2 => v = .non ∧ Q x H2) E := fun x dx hx hd hne => by
  have e0 : Ex H (upd (upd H dx (.own x)) x (.ins a_Cursor dx [])) := made_ex hx hd
  refine ⟨x, dx, a, b, rfl, upd_same, e0 _ _ ha, hl, fun H1 wl ys e1 h1 h2 => ⟨rfl, ?_⟩⟩
  have e2 : Ex H (upd H1 x (.ins a_Cursor dx [("words", .ref wl), ("at", .int ((0 : Nat) : Int))])) := exm (ext e0 e1) hx
  have hw : wl ≠ x := fun z => by
    have h3 := e1 x _ upd_same
    rw [← z, h1] at h3
    cases h3
  refine q _ x wl e2 ⟨_, 0, dx, ys, upd_same, (upd_ne hw).trans h1, h2.imp fun _ _ z => ?_, rfl⟩
  obtain ⟨t, rfl, ht⟩ := z
  refine ⟨t, rfl, ?_⟩
  rw [upd_ne (ne_of ht (e1 x _ upd_same) (by intro z; cases z))]
  exact ht
def sp_word : Sp := fun vs H Q _ => ∃ c e ws, vs = [.ref c] ∧ Cur H c e ws ∧ Q (tx (hdP e ws).1) H
theorem sc_Cursor_word : FnScope ["self"] ["self"] (defScope s_Cursor_word) := C8.fnScope_by (by decide +kernel)
theorem c_Cursor_word (T : Tx K mg) : Met P w K mg base CX0 1 a_Cursor "word" sp_word := by
  obtain ⟨fd, F⟩ := T.d_Cursor_word
  refine ⟨⟨_, fd, ["self"], T.me_Cursor_word, F.ok sc_Cursor_word (fun vs H Q E h => by obtain ⟨c, e, ws, rfl, _⟩ := h; rfl) (fun cdv A outer s H vs Q E hr h => ⟨_, pss_one (ps_ret (pe_ix ix_tup (pe_ix ix_list (pe_fld (pv 0) rfl) (pe_fld (pv 0) rfl) (fun _ _ => rfl)) pe_int (fun _ _ => rfl))), ?_⟩), F.binds fun _ _ _ _ _ _ us hl => match us, hl with | [_], _ => rfl⟩, T.cl_Cursor⟩
  obtain ⟨c, e, ws, rfl, hc, q⟩ := h
  obtain ⟨dx, wl, ys, i, t, h1, h2, h3, h4⟩ := hc.head
  exact ⟨_, rfl, c, _, dx, _, _, rfl, h1, T.cl_Cursor, T.na_Cursor_words, rfl, _, rfl, c, _, dx, _, _, rfl, h1, T.cl_Cursor, T.na_Cursor_at, rfl, _, _, _, _, rfl, rfl, SqL.of h2, atI_nat h3, _, _, _, _, rfl, rfl, SqT.of h4, rfl, q⟩
def sp_here : Sp := fun vs H Q _ => ∃ c e ws, vs = [.ref c] ∧ Cur H c e ws ∧ Q (.int (VbenCore.placeOf e ws : Nat)) H
theorem sc_Cursor_here : FnScope ["self"] ["self"] (defScope s_Cursor_here) := C8.fnScope_by (by decide +kernel)
theorem c_Cursor_here (T : Tx K mg) : Met P w K mg base CX0 1 a_Cursor "here" sp_here := by
  obtain ⟨fd, F⟩ := T.d_Cursor_here
  refine ⟨⟨_, fd, ["self"], T.me_Cursor_here, F.ok sc_Cursor_here (fun vs H Q E h => by obtain ⟨c, e, ws, rfl, _⟩ := h; rfl) (fun cdv A outer s H vs Q E hr h => ⟨_, pss_one (ps_ret (pe_ix ix_tup (pe_ix ix_list (pe_fld (pv 0) rfl) (pe_fld (pv 0) rfl) (fun _ _ => rfl)) pe_int (fun _ _ => rfl))), ?_⟩), F.binds fun _ _ _ _ _ _ us hl => match us, hl with | [_], _ => rfl⟩, T.cl_Cursor⟩
  obtain ⟨c, e, ws, rfl, hc, q⟩ := h
  obtain ⟨dx, wl, ys, i, t, h1, h2, h3, h4⟩ := hc.head
  rw [← hdP_place] at q
  exact ⟨_, rfl, c, _, dx, _, _, rfl, h1, T.cl_Cursor, T.na_Cursor_words, rfl, _, rfl, c, _, dx, _, _, rfl, h1, T.cl_Cursor, T.na_Cursor_at, rfl, _, _, _, _, rfl, rfl, SqL.of h2, atI_nat h3, _, _, _, _, rfl, rfl, SqT.of h4, rfl, q⟩
def sp_advance : Sp := fun vs H Q _ => ∃ c wl e w r, vs = [.ref c] ∧ CurW H c wl e (w :: r) ∧ ∀ H', Fr a_Cursor H H' → CurW H' c wl e r → Q .non H'
theorem sc_Cursor_advance : FnScope ["self"] ["self"] (defScope s_Cursor_advance) := C8.fnScope_by (by decide +kernel)
theorem c_Cursor_advance (T : Tx K mg) : Met P w K mg base CX0 1 a_Cursor "advance" sp_advance := by
  obtain ⟨fd, F⟩ := T.d_Cursor_advance
  refine ⟨⟨_, fd, ["self"], T.me_Cursor_advance, F.ok sc_Cursor_advance (fun vs H Q E h => by obtain ⟨c, wl, e, w, r, rfl, _⟩ := h; rfl) (fun cdv A outer s H vs Q E hr h => ⟨_, pss_one (ps_fld (pv 0) (pe_op op_add (pe_fld (pv 0) rfl) pe_int) rfl), ?_⟩), F.binds fun _ _ _ _ _ _ us hl => match us, hl with | [_], _ => rfl⟩, T.cl_Cursor⟩
  obtain ⟨c, wl, e, w, r, rfl, hc, q⟩ := h
  obtain ⟨all, i, dx, ys, h1, h2, h3, hd⟩ := hc
  refine ⟨_, rfl, c, _, dx, _, _, rfl, h1, T.cl_Cursor, T.na_Cursor_at, rfl, _, _, rfl, rfl, _, rfl, c, _, dx, _, rfl, h1, T.cl_Cursor, T.na_Cursor_at, (by show 2 < 1000; decide), ?_⟩
  have f := fru (fs' := [("words", V.ref wl), ("at", V.int ((i + 1 : Nat) : Int))]) h1
  refine q _ f ⟨all, i + 1, dx, ys, upd_same, f _ _ (fun _ _ z => by cases z) h2, h3.imp fun _ _ z => z.fr f, ?_⟩
  have hd2 : (all.drop i).drop 1 = r.map encP ++ [([46], e)] := by rw [hd]; rfl
  rw [List.drop_drop] at hd2
  exact hd2
def sp_check : Sp := fun vs H Q E => ∃ c e ws k, vs = [.ref c, tx k] ∧ Cur H c e ws ∧ ((hdP e ws).1 = k → Q .non H) ∧ ((hdP e ws).1 ≠ k → Rt H E (VbenCore.placeOf e ws))
theorem sc_Cursor_check : FnScope ["self", "wanted"] ["self", "wanted"] (defScope s_Cursor_check) := C8.fnScope_by (by decide +kernel)
theorem c_Cursor_check (T : Tx K mg) : Met P w K mg base (L2.CX P w) 4 a_Cursor "check" sp_check := by
  obtain ⟨fd, F⟩ := T.d_Cursor_check
  refine ⟨⟨_, fd, ["self", "wanted"], T.me_Cursor_check, F.okX sc_Cursor_check (fun vs H Q E h => by obtain ⟨c, e, ws, k, rfl, _⟩ := h; rfl) (fun cdv A outer s H vs Q E hr h => ⟨_, pss_one (ps_if (pt_cmpR op_ne (pe_o0 (c_Cursor_word T) hr (by decide) (pv 0)) (pv 1) (nomark _)) (pss_one (ps_rzP T hr (by decide) rfl rfl (takes_of rfl rfl rfl rfl) (pe_o0 (c_Cursor_here T) hr (by decide) (pv 0)))) pss_nil), ?_⟩), F.binds fun _ _ _ _ _ _ us hl => match us, hl with | [_, _], _ => rfl⟩, T.cl_Cursor⟩
  obtain ⟨c, e, ws, k, rfl, hc, q0, qe⟩ := h
  obtain ⟨dx, wl, ys, i, t, h1, h2, h3, h4⟩ := hc.head
  refine ⟨_, rfl, c, dx, _, rfl, h1, rfl, c, e, ws, rfl, hc, _, rfl, rfl, _, rfl, ?_⟩
  by_cases d : (hdP e ws).1 = k
  · exact ifNF (tx_inj.mpr d) (q0 d)
  · refine ifNT (fun z => d (tx_inj.mp z)) ?_
    exact ⟨_, rfl, c, dx, _, rfl, h1, rfl, c, e, ws, rfl, hc, kRz_of (Rt.go (qe d))⟩
def sp_take : Sp := fun vs H Q E => ∃ c wl e ws k, vs = [.ref c, tx k] ∧ CurW H c wl e ws ∧ k ≠ [46] ∧ ((hdP e ws).1 = k → ∀ w r H', ws = w :: r → Fr a_Cursor H H' → CurW H' c wl e r → Q .non H') ∧ ((hdP e ws).1 ≠ k → Rt H E (VbenCore.placeOf e ws))
theorem sc_Cursor_take : FnScope ["self", "wanted"] ["self", "wanted"] (defScope s_Cursor_take) := C8.fnScope_by (by decide +kernel)
theorem c_Cursor_take (T : Tx K mg) : Met P w K mg base (L2.CX P w) 5 a_Cursor "take" sp_take := by
  obtain ⟨fd, F⟩ := T.d_Cursor_take
  refine ⟨⟨_, fd, ["self", "wanted"], T.me_Cursor_take, F.okX sc_Cursor_take (fun vs H Q E h => by obtain ⟨c, wl, e, ws, k, rfl, _⟩ := h; rfl) (fun cdv A outer s H vs Q E hr h => ⟨_, pss_cons (ps_expr (pe_oX (c_Cursor_check T) hr (by decide) (passes_call (takes_of rfl rfl rfl rfl) fun _ _ _ _ z => z) (pv 0) (pa_cons (pv 1) pa_nil)))
    (pss_one (ps_expr (pe_o0 (c_Cursor_advance T) hr (by decide) (pv 0)))), ?_⟩), F.binds fun _ _ _ _ _ _ us hl => match us, hl with | [_, _], _ => rfl⟩, T.cl_Cursor⟩
  obtain ⟨c, wl, e, ws, k, rfl, hc, hk, q0, qe⟩ := h
  obtain ⟨dx, _, ys, i, t, h1, h2, h3, h4⟩ := hc.cur.head
  refine ⟨_, rfl, c, dx, _, rfl, h1, rfl, _, rfl, c, e, ws, k, rfl, hc.cur, fun d => ?_, qe⟩
  cases ws with
  | nil => exact absurd d.symm hk
  | cons w r => exact ⟨_, rfl, c, dx, _, rfl, h1, rfl, c, wl, e, w, r, rfl, hc, fun H' f hc' => q0 d w r H' rfl f hc'⟩
/-! the cursor's methods, read -/
section
variable {σ : L2.St} {H : Hp} {c wl : Addr} {e : Nat} {ws : List Word} {Q : VK} {E : XK}
theorem CurW.ins (h : CurW H c wl e ws) : ∃ (dx : Addr) (i : Nat), H c = some (.ins a_Cursor dx [("words", .ref wl), ("at", .int (i : Nat))]) := by
  obtain ⟨all, i, dx, us, h1, h2, h3, h4⟩ := h
  exact ⟨dx, i, h1⟩
theorem rd_word (h : CurW H c wl e ws) (q : Q (tx (hdP e ws).1) H) : ∃ a dx fs, V.ref c = .ref a ∧ H a = some (.ins a_Cursor dx fs) ∧ fs.lookup ("word" : Str) = none ∧ tNil σ H fun vs H2 => sp_word (.ref c :: (vs ++ [])) H2 Q E := by
  obtain ⟨dx, i, hi⟩ := h.ins
  exact ⟨c, dx, _, rfl, hi, rfl, c, e, ws, rfl, h.cur, q⟩
theorem rd_here (h : CurW H c wl e ws) (q : Q (.int (VbenCore.placeOf e ws : Nat)) H) : ∃ a dx fs, V.ref c = .ref a ∧ H a = some (.ins a_Cursor dx fs) ∧ fs.lookup ("here" : Str) = none ∧ tNil σ H fun vs H2 => sp_here (.ref c :: (vs ++ [])) H2 Q E := by
  obtain ⟨dx, i, hi⟩ := h.ins
  exact ⟨c, dx, _, rfl, hi, rfl, c, e, ws, rfl, h.cur, q⟩
theorem rd_adv {w : Word} {r : List Word} (h : CurW H c wl e (w :: r)) (q : ∀ H', Fr a_Cursor H H' → CurW H' c wl e r → Q .non H') : ∃ a dx fs, V.ref c = .ref a ∧ H a = some (.ins a_Cursor dx fs) ∧ fs.lookup ("advance" : Str) = none ∧ tNil σ H fun vs H2 => sp_advance (.ref c :: (vs ++ [])) H2 Q E := by
  obtain ⟨dx, i, hi⟩ := h.ins
  exact ⟨c, dx, _, rfl, hi, rfl, c, wl, e, w, r, rfl, h, q⟩
theorem rd_take {k : List Nat} {v : V} (h : CurW H c wl e ws) (hv : v = tx k) (hk : k ≠ [46]) (q0 : (hdP e ws).1 = k → ∀ w r H', ws = w :: r → Fr a_Cursor H H' → CurW H' c wl e r → Q .non H') (qe : (hdP e ws).1 ≠ k → Rt H E (VbenCore.placeOf e ws)) :
    ∃ a dx fs, V.ref c = .ref a ∧ H a = some (.ins a_Cursor dx fs) ∧ fs.lookup ("take" : Str) = none ∧ tCons (tC v) tNil σ H fun vs H2 => sp_take (.ref c :: (vs ++ [])) H2 Q E := by
  obtain ⟨dx, i, hi⟩ := h.ins
  exact ⟨c, dx, _, rfl, hi, rfl, c, wl, e, ws, k, by rw [hv]; rfl, h, hk, q0, qe⟩
theorem rd_check {k : List Nat} {v : V} (h : CurW H c wl e ws) (hv : v = tx k) (q0 : (hdP e ws).1 = k → Q .non H) (qe : (hdP e ws).1 ≠ k → Rt H E (VbenCore.placeOf e ws)) :
    ∃ a dx fs, V.ref c = .ref a ∧ H a = some (.ins a_Cursor dx fs) ∧ fs.lookup ("check" : Str) = none ∧ tCons (tC v) tNil σ H fun vs H2 => sp_check (.ref c :: (vs ++ [])) H2 Q E := by
  obtain ⟨dx, i, hi⟩ := h.ins
  exact ⟨c, dx, _, rfl, hi, rfl, c, e, ws, k, by rw [hv]; rfl, h.cur, q0, qe⟩
end
end
end N
namespace N
open PySem PySem.Spec PyProof.Rows L2 NX
open Vbenae (File Line Ask W)
open VbenCore (Word)
/-! ### words as they are spelled -/
theorem sgn_sign (c : Nat) : isSign (sgn c) = true ∨ sgn c = 63 := by
  unfold sgn
  by_cases h : isSign c = true
  · rw [if_pos h]; exact .inl h
  · rw [if_neg h]; exact .inr rfl
theorem sgn_eq {c x : Nat} (hx : isSign x = true) : sgn c = x ↔ c = x := by
  unfold sgn
  by_cases h : isSign c = true
  · rw [if_pos h]
  · rw [if_neg h]
    constructor
    · intro z
      rw [← z] at hx
      exact absurd hx (by decide)
    · intro z
      rw [z] at h
      exact absurd hx h
theorem sgn_map {k : List Nat} (hk : k.all isSign = true) : ∀ {w : List Nat}, w.map sgn = k ↔ w = k := by
  induction k with
  | nil =>
    intro w
    cases w <;> simp
  | cons x r ih =>
    intro w
    rw [List.all_cons, Bool.and_eq_true] at hk
    cases w with
    | nil => simp
    | cons c u => rw [List.map_cons, List.cons.injEq, List.cons.injEq, sgn_eq hk.1, ih hk.2]
theorem enc_key {k : List Nat} (hk : k.all isSign = true) (w : Word) : (encP w).1 = k ↔ w.2 = k := by
  unfold encP
  dsimp only
  by_cases h : w.2 = [10]
  · rw [if_pos h, h]
  · rw [if_neg h]
    exact sgn_map hk
theorem one_of {w : List Nat} {x : Nat} (h : w.map sgn = [x]) : ∃ c, sgn c = x := by
  cases w with
  | nil => cases h
  | cons c r =>
    rw [List.map_cons] at h
    exact ⟨c, (List.cons.inj h).1⟩
theorem enc_feed (w : Word) : (encP w).1 = [10] ↔ w.2 = [10] := by
  unfold encP
  dsimp only
  by_cases h : w.2 = [10]
  · rw [if_pos h, h]
  · rw [if_neg h]
    constructor
    · intro z
      obtain ⟨c, z1⟩ := one_of z
      rcases sgn_sign c with s | s
      · rw [z1] at s; exact absurd s (by decide)
      · rw [z1] at s; exact absurd s (by decide)
    · exact fun z => absurd z h
theorem enc_dot (w : Word) : (encP w).1 ≠ [46] := by
  unfold encP
  dsimp only
  by_cases h : w.2 = [10]
  · rw [if_pos h]; decide
  · rw [if_neg h]
    intro z
    obtain ⟨c, z1⟩ := one_of z
    rcases sgn_sign c with s | s
    · rw [z1] at s; exact absurd s (by decide)
    · rw [z1] at s; exact absurd s (by decide)
theorem hd_key {k : List Nat} (hk : k.all isSign = true) (hn : k ≠ [46]) (e : Nat) (ws : List Word) : (hdP e ws).1 = k ↔ VbenCore.ahead k ws = true := by
  cases ws with
  | nil => exact ⟨fun z => absurd z.symm hn, fun z => by cases z⟩
  | cons w r =>
    show (encP w).1 = k ↔ (w.2 == k) = true
    rw [enc_key hk, beq_iff_eq]
theorem hd_feed (e : Nat) (ws : List Word) : (hdP e ws).1 = [10] ↔ VbenCore.ahead [10] ws = true := by
  cases ws with
  | nil => exact ⟨fun z => absurd (show ([46] : List Nat) = [10] from z) (by decide), fun z => by cases z⟩
  | cons w r =>
    show (encP w).1 = [10] ↔ (w.2 == [10]) = true
    rw [enc_feed, beq_iff_eq]
theorem hd_dot (e : Nat) (ws : List Word) : (hdP e ws).1 = [46] ↔ ws = [] := by
  cases ws with
  | nil => exact ⟨fun _ => rfl, fun _ => rfl⟩
  | cons w r => exact ⟨fun z => absurd z (enc_dot w), fun z => by cases z⟩
/-! ### names -/
def nameB (k : List Nat) : Bool := Txt.isalpha (SX.S k) && decide (k.length ≤ 12)
theorem alpha_at (c : Nat) (h : c < 128) (hu : ¬ (65 ≤ c ∧ c ≤ 90)) : Unicode.isAlpha c = VbenCore.isLetter c := by
  have key : ∀ c : Nat, c < 128 → ¬ (65 ≤ c ∧ c ≤ 90) → Unicode.isAlpha c = VbenCore.isLetter c := by decide +kernel
  exact key c h hu
theorem letter_sign {c : Nat} (h : VbenCore.isLetter c = true) : isSign c = true := by
  unfold isSign
  rw [h] <;> rfl
theorem alpha_sgn (c : Nat) : Unicode.isAlpha (sgn c) = VbenCore.isLetter c := by
  rcases sgn_sign c with s | s
  · have h1 : sgn c < 128 ∧ ¬ (65 ≤ sgn c ∧ sgn c ≤ 90) := by
      unfold isSign VbenCore.isLetter VbenCore.isDigit at s
      simp at s
      omega
    have e : c = sgn c := (sgn_eq s).mp rfl
    rw [alpha_at _ h1.1 h1.2, ← e]
  · rw [s]
    have : VbenCore.isLetter c = false := by
      cases h : VbenCore.isLetter c
      · rfl
      · have := letter_sign h
        unfold sgn at s
        rw [if_pos this] at s
        rw [s] at h
        exact absurd h (by decide)
    rw [this]
    decide +kernel
theorem S_isalpha (l : List Nat) : Txt.isalpha (SX.S l) = (decide (0 < l.length) && l.all Unicode.isAlpha) := by
  unfold Txt.isalpha
  rw [SX.S_len]
  congr 1
  show l.toArray.all Unicode.isAlpha = _
  exact List.all_toArray
theorem all_map {α β : Type} (f : α → β) (p : β → Bool) (l : List α) : (l.map f).all p = l.all fun x => p (f x) := List.all_map ..
theorem alpha_feed : (Txt.isalpha (SX.S [10]) && decide (([10] : List Nat).length ≤ 12)) = (decide (1 ≤ ([10] : List Nat).length) && (decide (([10] : List Nat).length ≤ 12) && ([10] : List Nat).all VbenCore.isLetter)) := by decide +kernel
theorem alpha_dot : nameB [46] = false := by decide +kernel
theorem name_enc (w : Word) : nameB (encP w).1 = VbenCore.isName w.2 := by
  unfold nameB encP VbenCore.isName
  dsimp only
  by_cases h : w.2 = [10]
  · rw [if_pos h, h]
    exact alpha_feed
  · rw [if_neg h, S_isalpha, List.length_map, all_map]
    have : (fun x => Unicode.isAlpha (sgn x)) = VbenCore.isLetter := funext alpha_sgn
    rw [this]
    cases w.2.all VbenCore.isLetter
    · simp
    · rw [Bool.and_true, Bool.and_true] <;> rfl
theorem name_hd (e : Nat) (ws : List Word) : nameB (hdP e ws).1 = (match ws with | [] => false | w :: _ => VbenCore.isName w.2) := by
  cases ws with
  | nil => exact alpha_dot
  | cons w r => exact name_enc w
theorem name_signs {k : List Nat} (h : VbenCore.isName k = true) : k.all isSign = true ∧ k.length ≤ 12 := by
  unfold VbenCore.isName at h
  simp only [Bool.and_eq_true, decide_eq_true_eq, List.all_eq_true] at h
  exact ⟨List.all_eq_true.mpr fun x hx => letter_sign (h.2.2 x hx), h.2.1⟩
theorem name_nodot {k : List Nat} (h : VbenCore.isName k = true) : k ≠ [46] := fun z => by
  rw [z] at h
  exact absurd h (by decide)
theorem enc_name {w : Word} (h : VbenCore.isName w.2 = true) : (encP w).1 = w.2 := (enc_key (name_signs h).1 w).mpr rfl
section
variable {P : Program} {w : World} {K : PySem.W.Frag} {mg : Str → Option Value} {base : Heap}
def sp_is_name : Sp := fun vs H Q _ => ∃ k : List Nat, vs = [tx k] ∧ k.length ≤ 100000 ∧ Q (.bl (nameB k)) H
theorem sc_is_name : FnScope ["word"] ["word"] (defScope s_is_name) := C8.fnScope_by (by decide +kernel)
theorem c_is_name (T : Tx K mg) : Cal P w K mg base CX0 1 "is_name" a_is_name sp_is_name := by
  obtain ⟨fd, F⟩ := T.d_is_name
  refine ⟨⟨fd, ["word"], F.ok sc_is_name (fun vs H Q E h => by obtain ⟨k, rfl, _⟩ := h; rfl) (fun cdv A outer s H vs Q E hr h => ⟨_, pss_one (ps_ret (pe_and (pe_m0 PySem.F.slot_str_isalpha PySem.F.type_str_isalpha mt_isalpha (pv 0)) (pe_one (pe_cmpR op_le (pe_callB call_len rfl T.f_len PySem.boot_len (pa_cons (pv 0) pa_nil)) (C8.pe_gc rfl T.k_MOST_LETTERS) (nomark _))))), ?_⟩), F.binds fun _ _ _ _ _ _ us hl => match us, hl with | [_], _ => rfl⟩, T.g_is_name, F.kp⟩
  obtain ⟨k, rfl, hl, q⟩ := h
  refine ⟨_, rfl, ⟨_, rfl⟩, _, rfl, rfl, trivial, _, rfl, ?_⟩
  unfold nameB at q
  cases h : Txt.isalpha (SX.S k) with
  | false =>
    rw [h] at q
    exact iteF q
  | true =>
    rw [h, Bool.true_and] at q
    refine iteT ⟨_, rfl, _, _, rfl, ⟨szl (by rw [SX.S_len]; omega), rfl⟩, _, _, rfl, rfl, ?_⟩
    refine qb (Q := Q) ?_ q
    rw [SX.S_len]
    cases h2 : decide (k.length ≤ 12)
    · have := of_decide_eq_false h2
      exact decide_eq_false (by omega)
    · have := of_decide_eq_true h2
      exact decide_eq_true (by omega)
def res : List (List Nat) := [W "and", W "or", W "not", W "all", W "none"]
def markB (k : List Nat) : Bool := nameB k && !decide (k ∈ res)
def sp_is_mark : Sp := fun vs H Q _ => ∃ k : List Nat, vs = [tx k] ∧ k.length ≤ 100000 ∧ Q (.bl (markB k)) H
theorem lit_nm : [V.str "and", .str "or", .str "not", .str "all", .str "none"] = res.map tx := by rfl
theorem sc_is_mark : FnScope ["word"] ["word"] (defScope s_is_mark) := C8.fnScope_by (by decide +kernel)
theorem c_is_mark (T : Tx K mg) : Cal P w K mg base CX0 2 "is_mark" a_is_mark sp_is_mark := by
  obtain ⟨fd, F⟩ := T.d_is_mark
  refine ⟨⟨fd, ["word"], F.ok sc_is_mark (fun vs H Q E h => by obtain ⟨k, rfl, _⟩ := h; rfl) (fun cdv A outer s H vs Q E hr h => ⟨_, pss_one (ps_ret (pe_and (pe_f (c_is_name T) hr (by decide) rfl (pa_cons (pv 0) pa_nil)) (pe_one (pe_cmpR op_notIn_seq (pv 0) (C8.pe_gc rfl T.k_NO_MARKS) (by rfl))))), ?_⟩), F.binds fun _ _ _ _ _ _ us hl => match us, hl with | [_], _ => rfl⟩, T.g_is_mark, F.kp⟩
  obtain ⟨k, rfl, hl, q⟩ := h
  refine ⟨_, rfl, k, rfl, hl, _, rfl, ?_⟩
  unfold markB at q
  cases h : nameB k with
  | false =>
    rw [h] at q
    exact iteF q
  | true =>
    rw [h, Bool.true_and] at q
    refine iteT ⟨_, rfl, a_NO_MARKS, _, rfl, .inr (T.t_NO_MARKS _), rfl, (by rw [lit_nm]; exact flat_tx _), ?_⟩
    refine qb (Q := Q) ?_ q
    show (!inV (tx k) [V.str "and", .str "or", .str "not", .str "all", .str "none"]) = _
    rw [lit_nm, inV_tx]
theorem res_mem (k : List Nat) : Vbenae.RESERVED.contains k = decide (k ∈ res) := by
  have e : Vbenae.RESERVED = res := rfl
  rw [e, List.contains_eq_mem]
theorem mark_hd (e : Nat) (ws : List Word) : markB (hdP e ws).1 = (match ws with | [] => false | w :: _ => Vbenae.isMarkName w.2) := by
  cases ws with
  | nil =>
    show markB [46] = false
    unfold markB
    rw [alpha_dot] <;> rfl
  | cons w r =>
    show markB (encP w).1 = Vbenae.isMarkName w.2
    unfold markB Vbenae.isMarkName
    rw [name_enc, res_mem]
    cases h : VbenCore.isName w.2
    · rfl
    · rw [enc_name h]
end
end N
namespace N
open PySem PySem.Spec PyProof.Rows L2 NX
open Vbenae (File Line Ask W)
open VbenCore (Word)
/-! ### marks of a file -/
def takeMarks : Nat → List (List Nat) → List Word → List (List Nat) × List Word
  | 0, l, ws => (l, ws)
  | _ + 1, l, [] => (l, [])
  | g + 1, l, w :: r => if Vbenae.isMarkName w.2 = true ∧ w.2 ∉ l then takeMarks g (l ++ [w.2]) r else (l, w :: r)
theorem ifB {b : Bool} {A B : Prop} (h1 : b = true → A) (h2 : b = false → B) : if b = true then A else B := by
  cases b
  · exact iteF (h2 rfl)
  · exact iteT (h1 rfl)
theorem ifNB {b : Bool} {A B : Prop} (h1 : b = false → A) (h2 : b = true → B) : if (!b) = true then A else B := by
  cases b
  · exact iteT (h1 rfl)
  · exact iteF (h2 rfl)
/-- words of a text are no longer than it -/
def shortW (ws : List Word) : Prop := ∀ w ∈ ws, w.2.length ≤ 3000
theorem enc_len {w : Word} (h : w.2.length ≤ 3000) : (encP w).1.length ≤ 3000 := by
  unfold encP
  dsimp only
  split
  · decide
  · rw [List.length_map]; exact h
theorem hd_len {e : Nat} {ws : List Word} (h : shortW ws) : (hdP e ws).1.length ≤ 3000 := by
  cases ws with
  | nil => show 1 ≤ 3000; decide
  | cons w r => exact enc_len (h w List.mem_cons_self)
theorem shortW.tail {w : Word} {r : List Word} (h : shortW (w :: r)) : shortW r := fun x hx => h x (List.mem_cons_of_mem _ hx)
section
variable {P : Program} {w : World} {K : PySem.W.Frag} {mg : Str → Option Value} {base : Heap}
def sp_read_marks : Sp := fun vs H Q E => ∃ c wl e ws, vs = [.ref c] ∧ CurW H c wl e ws ∧ shortW ws ∧ match VbenCore.must e (W "marks") ws with
  | .error p => Rt H E p
  | .ok w1 => ∀ H' p, Fr a_Cursor H H' → CurW H' c wl e (takeMarks 6 [] w1).2 → H' p = some (.lst ((takeMarks 6 [] w1).1.map tx)) → wl ≠ p → Q (.ref p) H'
theorem key_marks : (W "marks").all isSign = true := by decide +kernel
theorem must_hd {e : Nat} {k : List Nat} (hk : k.all isSign = true) (hn : k ≠ [46]) {ws : List Word} : ((hdP e ws).1 = k → ∃ w r, ws = w :: r ∧ VbenCore.must e k ws = .ok r) ∧ ((hdP e ws).1 ≠ k → VbenCore.must e k ws = .error (VbenCore.placeOf e ws)) := by
  cases ws with
  | nil => exact ⟨fun z => absurd z.symm hn, fun _ => rfl⟩
  | cons w r =>
    constructor
    · intro z
      have : w.2 = k := (enc_key hk w).mp z
      refine ⟨w, r, rfl, ?_⟩
      rw [VbenCore.must, if_pos this]
    · intro z
      have : ¬ w.2 = k := fun y => z ((enc_key hk w).mpr y)
      rw [VbenCore.must, if_neg this] <;> rfl
theorem sc_read_marks : FnScope ["cursor", "marks"] ["cursor"] (defScope s_read_marks) := C8.fnScope_by (by decide +kernel)
theorem c_read_marks (T : Tx K mg) : Cal P w K mg base (L2.CX P w) 6 "read_marks" a_read_marks sp_read_marks := by
  obtain ⟨fd, F⟩ := T.d_read_marks
  refine ⟨⟨fd, ["cursor"], F.okX sc_read_marks (fun vs H Q E h => by obtain ⟨c, wl, e, ws, rfl, _⟩ := h; rfl) (fun cdv A outer s H vs Q E hr h => ⟨_, pss_cons (ps_expr (pe_oX (c_Cursor_take T) hr (by decide) (passes_call (takes_of rfl rfl rfl rfl) fun _ _ _ _ z => z) (pv 0) (pa_cons pe_str pa_nil)))
    (pss_cons (ps_set (i := 1) sc_read_marks.nd rfl (Or.inl rfl) (pe_lst pa_nil))
    (pss_cons (ps_while (passes_of rfl) (PW.pt (pw_and (pt_cmpR op_lt (pe_callB call_len rfl T.f_len PySem.boot_len (pa_cons (pv 1) pa_nil)) (C8.pe_gc rfl T.k_MOST_MARKS) (nomark _)) (pw_and (pt_val (pe_f (c_is_mark T) hr (by decide) rfl (pa_cons (pe_o0 (c_Cursor_word T) hr (by decide) (pv 0)) pa_nil))) (pw_and1 (pt_cmpR op_notIn_seq (pe_o0 (c_Cursor_word T) hr (by decide) (pv 0)) (pv 1) (by rfl))))))
    (pss_cons (ps_expr (pe_bm PySem.F.plainAttrs_list PySem.F.slot_list_append PySem.F.type_list_append mt_append (pv 1) (pa_cons (pe_o0 (c_Cursor_word T) hr (by decide) (pv 0)) pa_nil)))
    (pss_one (ps_expr (pe_o0 (c_Cursor_advance T) hr (by decide) (pv 0))))))
    (pss_one (ps_ret (pv 1))))), ?_⟩), F.binds fun _ _ _ _ _ _ us hl => match us, hl with | [_], _ => rfl⟩, T.g_read_marks, F.kp⟩
  obtain ⟨c, wl, e, ws, rfl, hc, sh, q⟩ := h
  obtain ⟨m1, m2⟩ := must_hd (e := e) key_marks (by decide +kernel) (ws := ws)
  refine ⟨_, rfl, rd_take (v := .str "marks") (k := W "marks") hc rfl (by decide +kernel) (fun d w r H1 hws f1 hc1 => ?_) (fun d => ?_)⟩
  · obtain ⟨w', r', hws', hm⟩ := m1 d
    rw [hm] at q
    rw [hws] at hws'
    cases hws'
    have sh1 : shortW r := (hws ▸ sh).tail
    refine ⟨szl (Nat.zero_le _), fun p hp => ?_⟩
    have e1 := exn (o := .lst []) hp
    obtain ⟨wy, hwl⟩ := hc1.lst
    have hwp : wl ≠ p := ne_of_none hwl hp
    refine ⟨fun m σ H' => ∃ (l : List (List Nat)) (rs : List Word), σ = [some (.ref c), some (.ref p)] ∧ m = rs.length ∧ Fr a_Cursor H H' ∧ Fr a_Cursor H1 H' ∧ CurW H' c wl e rs ∧ shortW rs ∧ H' p = some (.lst (l.map tx)) ∧ l.length ≤ 6 ∧ takeMarks (6 - l.length) l rs = takeMarks 6 [] r,
      ⟨_, [], r, rfl, rfl, frt f1 (frx e1), frx e1, hc1.ex e1, sh1, upd_same, Nat.zero_le _, rfl⟩, ?_⟩
    rintro m σ H' ⟨l, rs, rfl, rfl, fH, fH1, hcr, shr, hl, hl6, htk⟩
    have hll : (l.map tx).length = l.length := List.length_map ..
    refine ⟨_, rfl, _, _, rfl, .inl ⟨_, SqL.of hl, rfl⟩, _, _, rfl, rfl, _, rfl, ?_⟩
    rw [hll]
    have stop : takeMarks (6 - l.length) l rs = (l, rs) → ∀ {Z : Prop}, (tRet (tVar 1) { nx := fun _ H' => Q .non H', rt := Q } [some (.ref c), some (.ref p)] H' → Z) → Z := fun hs {Z} k => k ⟨_, rfl, by
      rw [hs] at htk
      refine q H' p fH ?_ ?_ hwp
      · rw [← htk]; exact hcr
      · rw [← htk]; exact hl⟩
    refine ite2 (fun c1 => ?_) (fun c1 => iteF (stop ?_ fun z => z))
    · have c1' : l.length < 6 := by have := of_decide_eq_true c1; omega
      refine ⟨_, rfl, rd_word hcr ⟨_, rfl, Nat.le_trans (hd_len shr) (by decide), _, rfl, ?_⟩⟩
      rw [mark_hd]
      cases rs with
      | nil => exact iteF (iteF (stop (by rw [show 6 - l.length = (5 - l.length) + 1 by omega]; rfl) fun z => z))
      | cons w2 r2 =>
        show if Vbenae.isMarkName w2.2 = true then _ else _
        cases hm2 : Vbenae.isMarkName w2.2 with
        | false => exact iteF (iteF (stop (by rw [show 6 - l.length = (5 - l.length) + 1 by omega, takeMarks, if_neg (by rw [hm2]; simp)]) fun z => z))
        | true =>
          have hnm : VbenCore.isName w2.2 = true := by
            unfold Vbenae.isMarkName at hm2
            exact (Bool.and_eq_true_iff.mp hm2).1
          have hen : (hdP e (w2 :: r2)).1 = w2.2 := enc_name hnm
          refine iteT ⟨_, rfl, rd_word hcr ⟨_, rfl, p, _, rfl, .inl (SqL.of hl), rfl, flat_tx l, _, rfl, ?_⟩⟩
          show if (!inV (tx (hdP e (w2 :: r2)).1) (l.map tx)) = true then _ else _
          rw [inV_tx, hen]
          by_cases hin : w2.2 ∈ l
          · exact ifNF hin (stop (by rw [show 6 - l.length = (5 - l.length) + 1 by omega, takeMarks, if_neg (fun z => z.2 hin)]) fun z => z)
          · refine ifNT hin ⟨fun σ' H2 => _, fun _ _ z => z, ?_⟩
            refine ⟨_, rfl, .inl ⟨rfl, _, SqL.of hl⟩, _, rfl, rd_word hcr ?_⟩
            rw [hen]
            refine ⟨p, _, _, rfl, rfl, hl, szs (by rw [hll]; omega), ?_⟩
            refine ⟨_, rfl, rd_adv (hcr.put hl hwp) fun H3 f3 hc3 => ?_⟩
            have fa := nlu (ys := l.map tx ++ [tx w2.2]) hl
            refine ⟨r2.length, by simp, l ++ [w2.2], r2, rfl, rfl, frt (frm f1 hp fH1) f3, frt (frm frr hp fH1) f3, hc3, shr.tail, ?_, by simp; omega, ?_⟩
            · rw [List.map_append]
              exact f3 _ _ (fun _ _ z => by cases z) upd_same
            · rw [List.length_append, List.length_singleton, ← htk, show 6 - l.length = (6 - (l.length + 1)) + 1 by omega, takeMarks, if_pos ⟨hm2, hin⟩]
    · have : l.length = 6 := by
        have : ¬ ((l.length : Int) < 6) := fun z => c1 (decide_eq_true z)
        omega
      rw [this]
      rfl
  · rw [m2 d] at q
    exact q
end
end N
namespace N
open PySem PySem.Spec PyProof.Rows L2 NX
open Vbenae (File Line Ask W)
open VbenCore (Word)
/-! ### numbers -/
theorem digit_at (c : Nat) (h : c < 128) : Unicode.isDigit c = VbenCore.isDigit c := by
  have key : ∀ c : Nat, c < 128 → Unicode.isDigit c = VbenCore.isDigit c := by decide +kernel
  exact key c h
theorem digit_sign {c : Nat} (h : VbenCore.isDigit c = true) : isSign c = true := by
  unfold isSign
  rw [h] <;> simp
theorem digit_sgn (c : Nat) : Unicode.isDigit (sgn c) = VbenCore.isDigit c := by
  rcases sgn_sign c with s | s
  · have h1 : sgn c < 128 := by
      unfold isSign VbenCore.isLetter VbenCore.isDigit at s
      simp at s
      omega
    have e : c = sgn c := (sgn_eq s).mp rfl
    rw [digit_at _ h1, ← e]
  · rw [s]
    have : VbenCore.isDigit c = false := by
      cases h : VbenCore.isDigit c
      · rfl
      · have := digit_sign h
        unfold sgn at s
        rw [if_pos this] at s
        rw [s] at h
        exact absurd h (by decide)
    rw [this]
    decide +kernel
def numB (k : List Nat) : Bool := Txt.isdigit (SX.S k)
theorem S_isdigit (l : List Nat) : Txt.isdigit (SX.S l) = (decide (0 < l.length) && l.all Unicode.isDigit) := by
  unfold Txt.isdigit
  rw [SX.S_len]
  congr 1
  show l.toArray.all Unicode.isDigit = _
  exact List.all_toArray
theorem num_feed : numB [10] = false := by decide +kernel
theorem num_dot : numB [46] = false := by decide +kernel
theorem num_enc (w : Word) : numB (encP w).1 = (decide (0 < w.2.length) && w.2.all VbenCore.isDigit) := by
  unfold encP
  dsimp only
  by_cases h : w.2 = [10]
  · rw [if_pos h, h, num_feed] <;> rfl
  · rw [if_neg h]
    unfold numB
    rw [S_isdigit, List.length_map, all_map]
    have : (fun x => Unicode.isDigit (sgn x)) = VbenCore.isDigit := funext digit_sgn
    rw [this]
theorem enc_num {w : Word} (h : w.2.all VbenCore.isDigit = true) : (encP w).1 = w.2 :=
  (enc_key (List.all_eq_true.mpr fun x hx => digit_sign (List.all_eq_true.mp h x hx)) w).mpr rfl
theorem lit_zero : ("0" : Str) = SX.S [48] := by decide +kernel
theorem starts_zero (a : List Nat) : Txt.startswith (SX.S a) ("0" : Str) = (a.head? == some 48) := by
  rw [lit_zero]
  unfold Txt.startswith
  rw [StrLaws.subAt_eq, SX.S_len, SX.S_len]
  show (decide (0 + 1 ≤ a.length) && ((a.drop 0).take 1 == [48])) = _
  cases a with
  | nil => rfl
  | cons x r =>
    simp
def val10 (a : List Nat) : Nat := VbenCore.valueOf 10 (a.map fun c => c - 48)
theorem val_digits (a : List Nat) : NumText.digitsVal a = val10 a := by
  unfold NumText.digitsVal val10 VbenCore.valueOf
  rw [List.foldl_map]
theorem val_ge : ∀ (l : List Nat) (v : Nat), v * 10 ^ l.length ≤ l.foldl (fun v d => v * 10 + d) v
  | [], v => by simp
  | d :: r, v => by
    have := val_ge r (v * 10 + d)
    rw [List.foldl_cons, List.length_cons, Nat.pow_succ]
    have h : v * (10 ^ r.length * 10) ≤ (v * 10 + d) * 10 ^ r.length := by
      rw [Nat.add_mul, Nat.mul_assoc, Nat.mul_comm 10 (10 ^ r.length)]
      omega
    omega
theorem long_big {a : List Nat} (hd : a.all VbenCore.isDigit = true) (hz : a.head? ≠ some 48) (hl : 7 < a.length) : 1000000 < val10 a := by
  cases a with
  | nil => simp at hl
  | cons x r =>
    have hx : x ≠ 48 := fun z => hz (by rw [z]; rfl)
    rw [List.all_cons, Bool.and_eq_true] at hd
    have hx2 : 48 ≤ x ∧ x ≤ 57 := by simpa [VbenCore.isDigit] using hd.1
    have h := val_ge (r.map fun c => c - 48) (x - 48)
    unfold val10 VbenCore.valueOf
    rw [List.map_cons, List.foldl_cons, Nat.zero_mul, Nat.zero_add]
    rw [List.length_map] at h
    have hp : 10 ^ 7 ≤ 10 ^ r.length := Nat.pow_le_pow_right (by decide) (by simp at hl; omega)
    have : 10 ^ r.length ≤ (x - 48) * 10 ^ r.length := Nat.le_mul_of_pos_left _ (by omega)
    have h7 : 10 ^ 7 = 10000000 := by decide
    omega
/-- when a word is a number of cards -/
def countOk (k : List Nat) : Bool := (decide (0 < k.length) && k.all VbenCore.isDigit) && (decide (k.length ≤ 7) && (!(k.head? == some 48 && decide (1 < k.length)) && decide (val10 k ≤ 1000000)))
theorem nat_some {w : List Nat} (h : ¬ (w.isEmpty = true ∨ VbenCore.MOSTDIGITS < w.length ∨ w.all VbenCore.isDigit = false ∨ VbenCore.isZeroLed w = true)) : VbenCore.natOf w = some (val10 w) := if_neg h
theorem nat_none {w : List Nat} (h : w.isEmpty = true ∨ VbenCore.MOSTDIGITS < w.length ∨ w.all VbenCore.isDigit = false ∨ VbenCore.isZeroLed w = true) : VbenCore.natOf w = none := if_pos h
theorem numIn_ok (e : Nat) (w : Word) (r : List Word) : Vbenae.numIn e 0 Vbenae.MANY (w :: r) = if countOk w.2 = true then .ok (val10 w.2, r) else .error w.1 := by
  show (match VbenCore.natOf w.2 with
    | some n => if 0 ≤ n ∧ n ≤ 1000000 then Except.ok (n, r) else .error w.1
    | none => .error w.1) = _
  cases hc : countOk w.2 with
  | true =>
    unfold countOk at hc
    simp only [Bool.and_eq_true, decide_eq_true_eq, Bool.not_eq_true'] at hc
    obtain ⟨⟨h0, hd⟩, h7, hz, hv⟩ := hc
    rw [nat_some]
    · rw [if_pos rfl]
      exact if_pos ⟨Nat.zero_le _, hv⟩
    · rintro (h | h | h | h)
      · rw [List.isEmpty_iff] at h
        rw [h] at h0
        simp at h0
      · unfold VbenCore.MOSTDIGITS at h
        omega
      · rw [hd] at h
        cases h
      · unfold VbenCore.isZeroLed at h
        rw [hz] at h
        cases h
  | false =>
    rw [if_neg Bool.false_ne_true]
    by_cases hn : w.2.isEmpty = true ∨ VbenCore.MOSTDIGITS < w.2.length ∨ w.2.all VbenCore.isDigit = false ∨ VbenCore.isZeroLed w.2 = true
    · rw [nat_none hn]
    · rw [nat_some hn]
      show (if 0 ≤ val10 w.2 ∧ val10 w.2 ≤ 1000000 then _ else _) = _
      rw [if_neg]
      rintro ⟨_, hv⟩
      have h1 : ¬ w.2.isEmpty = true := fun z => hn (.inl z)
      have h3 : w.2.all VbenCore.isDigit = true := by
        cases h : w.2.all VbenCore.isDigit
        · exact absurd (.inr (.inr (.inl h))) hn
        · rfl
      have h4 : VbenCore.isZeroLed w.2 = false := by
        cases h : VbenCore.isZeroLed w.2
        · rfl
        · exact absurd (.inr (.inr (.inr h))) hn
      have h0 : 0 < w.2.length := by
        cases hw : w.2 with
        | nil => rw [hw] at h1; exact absurd rfl h1
        | cons a b => simp
      unfold VbenCore.isZeroLed at h4
      by_cases h7 : w.2.length ≤ 7
      · unfold countOk at hc
        rw [decide_eq_true h0, h3, decide_eq_true h7, h4, decide_eq_true hv] at hc
        cases hc
      · have hh : w.2.head? ≠ some 48 := fun z => by
          rw [z] at h4
          simp at h4
          omega
        have := long_big h3 hh (by omega)
        omega
section
variable {P : Program} {w : World} {K : PySem.W.Frag} {mg : Str → Option Value} {base : Heap}
def sp_read_count : Sp := fun vs H Q E => ∃ c wl e ws, vs = [.ref c] ∧ CurW H c wl e ws ∧ shortW ws ∧ match Vbenae.numIn e 0 Vbenae.MANY ws with
  | .error p => Rt H E p
  | .ok (n, w1) => ∀ H', Fr a_Cursor H H' → CurW H' c wl e w1 → Q (.int (n : Nat)) H'
theorem str_million : Str.ofString (toString (1000000 : Int)) = SX.S [49, 48, 48, 48, 48, 48, 48] := by decide +kernel
theorem sc_read_count : FnScope ["cursor", "word"] ["cursor"] (defScope s_read_count) := C8.fnScope_by (by decide +kernel)
theorem c_read_count (T : Tx K mg) : Cal P w K mg base (L2.CX P w) 4 "read_count" a_read_count sp_read_count := by
  obtain ⟨fd, F⟩ := T.d_read_count
  refine ⟨⟨fd, ["cursor"], F.okX sc_read_count (fun vs H Q E h => by obtain ⟨c, wl, e, ws, rfl, _⟩ := h; rfl) (fun cdv A outer s H vs Q E hr h => ⟨_, pss_cons (ps_set (i := 1) sc_read_count.nd rfl (Or.inl rfl) (pe_o0 (c_Cursor_word T) hr (by decide) (pv 0)))
    (pss_cons (ps_if (PW.pt (pw_or (pt_not (pt_val (pe_m0 PySem.F.slot_str_isdigit PySem.F.type_str_isdigit mt_isdigit (pv 1)))) (pw_or1 (pt_cmpR op_gt (pe_callB call_len rfl T.f_len PySem.boot_len (pa_cons (pv 1) pa_nil)) (pe_callB call_len rfl T.f_len PySem.boot_len (pa_cons (pe_callTy call_str_int rfl T.f_str (by decide +kernel) (pa_cons (C8.pe_gc rfl T.k_MOST_CARDS) pa_nil)) pa_nil)) (nomark _))))) (pss_one (ps_rzP T hr (by decide) rfl rfl (takes_of rfl rfl rfl rfl) (pe_o0 (c_Cursor_here T) hr (by decide) (pv 0)))) pss_nil)
    (pss_cons (ps_if (PW.pt (pw_and (pt_val (pe_m1 PySem.F.slot_str_startswith PySem.F.type_str_startswith mt_startswith (pv 1) pe_str)) (pw_and1 (pt_cmpR op_gt (pe_callB call_len rfl T.f_len PySem.boot_len (pa_cons (pv 1) pa_nil)) pe_int (nomark _))))) (pss_one (ps_rzP T hr (by decide) rfl rfl (takes_of rfl rfl rfl rfl) (pe_o0 (c_Cursor_here T) hr (by decide) (pv 0)))) pss_nil)
    (pss_cons (ps_if (pt_cmpR op_gt (pe_callTy call_int_str rfl T.f_int (by decide +kernel) (pa_cons (pv 1) pa_nil)) (C8.pe_gc rfl T.k_MOST_CARDS) (nomark _)) (pss_one (ps_rzP T hr (by decide) rfl rfl (takes_of rfl rfl rfl rfl) (pe_o0 (c_Cursor_here T) hr (by decide) (pv 0)))) pss_nil)
    (pss_cons (ps_expr (pe_o0 (c_Cursor_advance T) hr (by decide) (pv 0)))
    (pss_one (ps_ret (pe_callTy call_int_str rfl T.f_int (by decide +kernel) (pa_cons (pv 1) pa_nil)))))))), ?_⟩), F.binds fun _ _ _ _ _ _ us hl => match us, hl with | [_], _ => rfl⟩, T.g_read_count, F.kp⟩
  obtain ⟨c, wl, e, ws, rfl, hc, sh, q⟩ := h
  have hsl := hd_len (e := e) sh
  have no : (match ws with | [] => false | w :: _ => countOk w.2) = false → Rt H E (VbenCore.placeOf e ws) := fun hb => by
    cases ws with
    | nil => exact q
    | cons w r =>
      rw [numIn_ok, show countOk w.2 = false from hb] at q
      exact q
  have nd : numB (hdP e ws).1 = (match ws with | [] => false | w :: _ => (decide (0 < w.2.length) && w.2.all VbenCore.isDigit)) := by
    cases ws with
    | nil => exact num_dot
    | cons w r => exact num_enc w
  refine ⟨_, rfl, rd_word hc ?_⟩
  refine ⟨_, rfl, ⟨_, rfl⟩, _, rfl, rfl, trivial, _, rfl, ?_⟩
  refine ifNB (b := numB (hdP e ws).1) (fun h0 => iteT ?_) (fun h0 => ?_)
  · rw [nd] at h0
    refine ⟨_, rfl, rd_here hc (kRz_of (Rt.go (no ?_)))⟩
    cases ws with
    | nil => rfl
    | cons w r =>
      show countOk w.2 = false
      unfold countOk
      rw [show (decide (0 < w.2.length) && w.2.all VbenCore.isDigit) = false from h0] <;> rfl
  · rw [nd] at h0
    cases ws with
    | nil => cases h0
    | cons w r =>
      have h1 : (decide (0 < w.2.length) && w.2.all VbenCore.isDigit) = true := h0
      have hdg : w.2.all VbenCore.isDigit = true := (Bool.and_eq_true_iff.mp h1).2
      have hpos : 0 < w.2.length := of_decide_eq_true (Bool.and_eq_true_iff.mp h1).1
      have hen : (hdP e (w :: r)).1 = w.2 := enc_num hdg
      rw [hen] at hsl
      refine ⟨_, rfl, _, _, rfl, ⟨szl (by rw [SX.S_len, hen]; omega), rfl⟩, _, rfl, (by decide), _, _, rfl, ⟨szl (by rw [str_million]; decide), rfl⟩, _, _, rfl, rfl, _, rfl, ?_⟩
      rw [str_million, SX.S_len, SX.S_len, hen]
      by_cases h7 : w.2.length ≤ 7
      · refine ifF (by show ¬ ((7 : Nat) : Int) < _; omega) ?_
        refine ⟨_, rfl, ⟨_, rfl⟩, _, _, rfl, rfl, _, rfl, ?_⟩
        show if Txt.startswith (SX.S w.2) ("0" : Str) = true then _ else _
        rw [starts_zero]
        have fin : (w.2.head? == some 48 && decide (1 < w.2.length)) = false → tSeq (tIfS (tTest (tOp (rI0 fun i j => .bl (decide (j < i))) (tCB (fun xs H Q => ∃ a n, xs = [.str a] ∧ PySem.intText? a = some n ∧ a.length ≤ 640 ∧ Q (.int n) H) (tCons (tVar 1) tNil)) (tC (.int 1000000)))) (tRzP (fun cls d _ H => E cls d H) (tMeth a_Cursor "here" sp_here [] E0 (tVar 0) tNil)) tNext)
            (tSeq (tDrop (tMeth a_Cursor "advance" sp_advance [] E0 (tVar 0) tNil)) (tRet (tCB (fun xs H Q => ∃ a n, xs = [.str a] ∧ PySem.intText? a = some n ∧ a.length ≤ 640 ∧ Q (.int n) H) (tCons (tVar 1) tNil)))) { nx := fun _ H' => Q .non H', rt := Q } [some (.ref c), some (tx w.2)] H := fun hz => by
          have hint : PySem.intText? (SX.S w.2) = some ((val10 w.2 : Nat) : Int) := by
            rw [SX.int_S hdg (fun z => by rw [z] at hpos; simp at hpos) (by omega), val_digits]
          refine ⟨_, rfl, _, _, rfl, hint, by rw [SX.S_len]; omega, _, _, rfl, rfl, _, rfl, ?_⟩
          by_cases hv : val10 w.2 ≤ 1000000
          · refine ifF (by omega) ?_
            have hok : countOk w.2 = true := by
              unfold countOk
              rw [h1, decide_eq_true h7, hz, decide_eq_true hv] <;> rfl
            rw [numIn_ok, hok] at q
            refine ⟨_, rfl, rd_adv hc fun H1 f1 hc1 => ?_⟩
            exact ⟨_, rfl, _, _, rfl, hint, by rw [SX.S_len]; omega, q H1 f1 hc1⟩
          · refine ifT (by omega) ?_
            exact ⟨_, rfl, rd_here hc (kRz_of (Rt.go (no (by show countOk w.2 = false; unfold countOk; rw [decide_eq_false hv]; simp))))⟩
        cases hh : (w.2.head? == some 48) with
        | false => exact iteF (iteF (fin (by rw [hh] <;> rfl)))
        | true =>
          refine iteT ?_
          refine ⟨_, rfl, _, _, rfl, ⟨szl (by rw [SX.S_len]; omega), rfl⟩, _, _, rfl, rfl, _, rfl, ?_⟩
          rw [SX.S_len]
          by_cases h1l : 1 < w.2.length
          · refine ifT (by omega) ?_
            exact ⟨_, rfl, rd_here hc (kRz_of (Rt.go (no (by show countOk w.2 = false; unfold countOk; rw [hh, decide_eq_true h1l]; simp))))⟩
          · exact ifF (by omega) (fin (by rw [hh, decide_eq_false h1l] <;> rfl))
      · refine ifT (by show ((7 : Nat) : Int) < _; omega) ?_
        exact ⟨_, rfl, rd_here hc (kRz_of (Rt.go (no (by show countOk w.2 = false; unfold countOk; rw [decide_eq_false h7]; simp))))⟩
end
end N
namespace N
open PySem PySem.Spec PyProof.Rows L2 NX
open Vbenae (File Line Ask W)
open VbenCore (Word)
/-! ### a notching's marks -/
def takeN : List (List Nat) → Nat → Nat → List Word → Nat × List Word
  | [], _, n, ws => (n, ws)
  | m :: ms, i, n, ws => if VbenCore.ahead m ws = true then takeN ms (i + 1) (n + 2 ^ i) (ws.drop 1) else takeN ms (i + 1) n ws
theorem frs_l {C : Addr} {K : PySem.W.Frag} {H H' : Hp} {a : Addr} {xs : List V} (e : Fr C H H') (h : H a = some (.lst xs)) : H' a = some (.lst xs) := e _ _ (fun _ _ z => by cases z) h
section
variable {P : Program} {w : World} {K : PySem.W.Frag} {mg : Str → Option Value} {base : Heap}
def okNames (ms : List (List Nat)) : Prop := ∀ m ∈ ms, VbenCore.isName m = true
def sp_read_notching : Sp := fun vs H Q _ => ∃ c wl e ws b ms, vs = [.ref c, .ref b] ∧ CurW H c wl e ws ∧ H b = some (.lst (ms.map tx)) ∧ okNames ms ∧ ms.length ≤ 6 ∧
  ∀ H', Fr a_Cursor H H' → CurW H' c wl e (takeN ms 0 0 ws).2 → Q (.int ((takeN ms 0 0 ws).1 : Nat)) H'
theorem sc_read_notching : FnScope ["cursor", "marks", "notching", "number", "mark"] ["cursor", "marks"] (defScope s_read_notching) := C8.fnScope_by (by decide +kernel)
theorem c_read_notching (T : Tx K mg) : Cal P w K mg base CX0 2 "read_notching" a_read_notching sp_read_notching := by
  obtain ⟨fd, F⟩ := T.d_read_notching
  refine ⟨⟨fd, ["cursor", "marks"], F.ok sc_read_notching (fun vs H Q E h => by obtain ⟨c, wl, e, ws, b, ms, rfl, _⟩ := h; rfl) (fun cdv A outer s H vs Q E hr h => ⟨_, pss_cons (ps_set (i := 2) sc_read_notching.nd rfl (Or.inl rfl) pe_int)
    (pss_cons (ps_for PassesOwn.never rfl (pi_enum rfl T.f_enumerate (pa_cons (pv 1) pa_nil)) (pg_tup rfl (pgs_cons (pg_name (i := 3) sc_read_notching.nd rfl (Or.inl rfl)) (pgs_cons (pg_name (i := 4) sc_read_notching.nd rfl (Or.inl rfl)) pgs_nil)))
    (pss_one (ps_if (pt_cmpR op_eq (pe_o0 (c_Cursor_word T) hr (by decide) (pv 0)) (pv 4) (nomark _)) (pss_cons (ps_set (i := 2) sc_read_notching.nd rfl (Or.inl rfl) (pe_op op_add (pv 2) (pe_op op_shl pe_int (pv 3))))
    (pss_one (ps_expr (pe_o0 (c_Cursor_advance T) hr (by decide) (pv 0))))) pss_nil)))
    (pss_one (ps_ret (pv 2)))), ?_⟩), F.binds fun _ _ _ _ _ _ us hl => match us, hl with | [_, _], _ => rfl⟩, T.g_read_notching, F.kp⟩
  obtain ⟨c, wl, e, ws, b, ms, rfl, hc, hb, nm, wm, q⟩ := h
  have hl : (ms.map tx).length = ms.length := List.length_map ..
  refine ⟨_, rfl, b, _, rfl, SqL.of hb, ?_⟩
  refine for_it (walk_enum (K := K) (a := b) (xs := ms.map tx)) (fun i σ H' => ∃ (n : Nat) (u v : Option V) (rs : List Word), σ = [some (.ref c), some (.ref b), some (.int (n : Nat)), u, v] ∧ Fr a_Cursor H H' ∧ CurW H' c wl e rs ∧ takeN (ms.drop i) i n rs = takeN ms 0 0 ws)
    ⟨0, _, _, ws, rfl, frr, hc, rfl⟩ (fun i σ H' _ ⟨_, _, _, _, _, f, _⟩ => SqL.of (frs_l (K := K) f hb)) ?_ ?_
  · rintro i y σ H' H2 hi ⟨n, u, v, rs, rfl, f, hcr, htk⟩ ⟨t, u1, v1, rfl, ht, rfl, hu, hv⟩
    cases hu
    have hv' : (ms.map tx)[i]? = some v1 := hv
    rw [List.getElem?_map] at hv'
    obtain ⟨m, hm, rfl⟩ := Option.map_eq_some_iff.mp hv'
    have hnm := nm m (List.mem_of_getElem? hm)
    have et := exn (o := .tup [.int (i : Nat), tx m]) ht
    have hi2 : i < ms.length := (List.getElem?_eq_some_iff.mp hm).1
    have hdr : ms.drop i = m :: ms.drop (i + 1) := by
      rw [List.drop_eq_getElem_cons hi2]
      congr 1
      exact (List.getElem?_eq_some_iff.mp hm).2
    rw [hdr] at htk
    have hcr2 := hcr.ex et
    have hk := hd_key (name_signs hnm).1 (name_nodot hnm) e rs
    refine ⟨t, _, rfl, SqT.of upd_same, rfl, _, _, rfl, _, _, rfl, rfl, ?_⟩
    refine ⟨_, rfl, rd_word hcr2 ⟨_, rfl, rfl, _, rfl, ?_⟩⟩
    by_cases ha : VbenCore.ahead m rs = true
    · refine ifT (tx_inj.mpr (hk.mpr ha)) ?_
      rw [takeN, if_pos ha] at htk
      refine ⟨_, rfl, _, rfl, _, _, rfl, rfl, ⟨by omega, by rw [hl] at hi; omega, by decide⟩, _, _, rfl, rfl, ?_⟩
      cases rs with
      | nil => cases ha
      | cons w2 r2 =>
        refine ⟨_, rfl, rd_adv hcr2 fun H3 f3 hc3 => ?_⟩
        refine ⟨n + 2 ^ i, some (.int (i : Nat)), some (tx m), r2, ?_, frt (frt f (frx et)) f3, hc3, htk⟩
        have ei : ((n : Nat) : Int) + 1 * 2 ^ ((i : Nat) : Int).toNat = ((n + 2 ^ i : Nat) : Int) := by
          rw [Int.one_mul, Int.toNat_natCast, Int.natCast_add, Int.natCast_pow] <;> rfl
        rw [← ei]
        rfl
    · refine ifF (fun z => ha (hk.mp (tx_inj.mp z))) ?_
      rw [takeN, if_neg ha] at htk
      exact ⟨n, _, _, rs, rfl, frt f (frx et), hcr2, htk⟩
  · rintro σ H' ⟨n, u, v, rs, rfl, f, hcr, htk⟩
    rw [hl, List.drop_length] at htk
    have h1 : (n, rs) = takeN ms 0 0 ws := htk
    rw [← h1] at q
    exact ⟨_, rfl, q _ f hcr⟩
def sp_read_cards : Sp := fun vs H Q E => ∃ c wl e ws b ms, vs = [.ref c, .ref b] ∧ CurW H c wl e ws ∧ shortW ws ∧ H b = some (.lst (ms.map tx)) ∧ okNames ms ∧ ms.length ≤ 6 ∧ match Vbenae.numIn e 0 Vbenae.MANY ws with
  | .error p => Rt H E p
  | .ok (k, w1) => ∀ H' v, Fr a_Cursor H H' → CurW H' c wl e (takeN ms 0 0 w1).2 → LineAt H' ⟨k, (takeN ms 0 0 w1).1⟩ v → Q v H'
theorem sc_read_cards : FnScope ["cursor", "marks", "count"] ["cursor", "marks"] (defScope s_read_cards) := C8.fnScope_by (by decide +kernel)
theorem c_read_cards (T : Tx K mg) : Cal P w K mg base (L2.CX P w) 5 "read_cards" a_read_cards sp_read_cards := by
  obtain ⟨fd, F⟩ := T.d_read_cards
  refine ⟨⟨fd, ["cursor", "marks"], F.okX sc_read_cards (fun vs H Q E h => by obtain ⟨c, wl, e, ws, b, ms, rfl, _⟩ := h; rfl) (fun cdv A outer s H vs Q E hr h => ⟨_, pss_cons (ps_set (i := 2) sc_read_cards.nd rfl (Or.inl rfl) (pe_fX (c_read_count T) hr (by decide) (passes_call (takes_of rfl rfl rfl rfl) fun _ _ _ _ z => z) rfl (pa_cons (pv 0) pa_nil)))
    (pss_one (ps_ret (pe_tup (pa_cons (pv 2) (pa_cons (pe_f (c_read_notching T) hr (by decide) rfl (pa_cons (pv 0) (pa_cons (pv 1) pa_nil))) pa_nil))))), ?_⟩), F.binds fun _ _ _ _ _ _ us hl => match us, hl with | [_, _], _ => rfl⟩, T.g_read_cards, F.kp⟩
  obtain ⟨c, wl, e, ws, b, ms, rfl, hc, sh, hb, nm, wm, q⟩ := h
  refine ⟨_, rfl, c, wl, e, ws, rfl, hc, sh, ?_⟩
  cases hn : Vbenae.numIn e 0 Vbenae.MANY ws with
  | error p =>
    rw [hn] at q
    exact q
  | ok r =>
    obtain ⟨k, w1⟩ := r
    rw [hn] at q
    intro H1 f1 hc1
    refine ⟨_, rfl, _, rfl, _, rfl, c, wl, e, w1, b, ms, rfl, hc1, frs_l (K := K) f1 hb, nm, wm, fun H2 f2 hc2 => ?_⟩
    refine ⟨by show 2 ≤ sizeLine; decide, fun t ht => ?_⟩
    have et := exn (o := .tup [.int (k : Nat), .int ((takeN ms 0 0 w1).1 : Nat)]) ht
    exact q _ _ (frt (frt f1 f2) (frx et)) (hc2.ex et) ⟨t, rfl, upd_same⟩
end
/-! ### against the specification's reading of marks -/
theorem names_take (e : Nat) : ∀ (g : Nat) (l : List (List Nat)) (ws : List Word), Vbenae.namesIn e g l ws = (let r := takeMarks g l ws; if r.2.isEmpty = true ∨ VbenCore.ahead [10] r.2 = true then .ok r else .error (VbenCore.placeOf e r.2))
  | 0, l, ws => rfl
  | g + 1, l, [] => by
    show (if ([] : List Word).isEmpty = true ∨ _ then _ else _) = _
    rfl
  | g + 1, l, w :: r => by
    rw [Vbenae.namesIn]
    by_cases ha : VbenCore.ahead [10] (w :: r) = true
    · rw [if_pos (.inr ha)]
      have h10 : w.2 = [10] := by
        have : (w.2 == [10]) = true := ha
        simpa using this
      have hm : ¬ (Vbenae.isMarkName w.2 = true ∧ w.2 ∉ l) := fun z => by
        rw [h10] at z
        exact absurd z.1 (by decide +kernel)
      rw [takeMarks, if_neg hm]
      show _ = (if _ ∨ VbenCore.ahead [10] (w :: r) = true then _ else _)
      rw [if_pos (.inr ha)]
    · rw [if_neg (by rintro (h | h); cases h; exact ha h)]
      dsimp only
      by_cases hm : Vbenae.isMarkName w.2 = true ∧ w.2 ∉ l
      · rw [if_pos ⟨hm.1, by simpa using hm.2⟩, takeMarks, if_pos hm]
        exact names_take e g (l ++ [w.2]) r
      · rw [if_neg (fun z => hm ⟨z.1, by simpa using z.2⟩), takeMarks, if_neg hm]
        show _ = (if _ ∨ VbenCore.ahead [10] (w :: r) = true then _ else _)
        rw [if_neg (by rintro (h | h); cases h; exact ha h)] <;> rfl
theorem markOf_at {f : File} {w : List Nat} {m : Nat} : Vbenae.markOf f w = some m → f.marks[m]? = some w ∧ ∀ j, j < m → f.marks[j]? ≠ some w := by
  intro h
  unfold Vbenae.markOf at h
  rw [List.findIdx?_eq_some_iff_getElem] at h
  obtain ⟨hl, h1, h2⟩ := h
  have e1 : f.marks[m] = w := by simpa using h1
  refine ⟨by rw [List.getElem?_eq_getElem hl, e1], fun j hj hz => ?_⟩
  have hjl : j < f.marks.length := by omega
  rw [List.getElem?_eq_getElem hjl] at hz
  have := h2 j hj
  rw [Option.some.inj hz] at this
  simp at this
theorem markOf_none {f : File} {w : List Nat} : Vbenae.markOf f w = none → w ∉ f.marks := by
  intro h hm
  unfold Vbenae.markOf at h
  rw [List.findIdx?_eq_none_iff] at h
  have := h w hm
  simp at this
/-- no mark from here on stands ahead: nothing is taken -/
theorem takeN_none : ∀ (ms : List (List Nat)) (i n : Nat) (ws : List Word), (∀ m ∈ ms, VbenCore.ahead m ws = false) → takeN ms i n ws = (n, ws)
  | [], _, _, _, _ => rfl
  | m :: ms, i, n, ws, h => by
    rw [takeN, if_neg (by rw [h m List.mem_cons_self]; exact Bool.false_ne_true)]
    exact takeN_none ms (i + 1) n ws fun x hx => h x (List.mem_cons_of_mem _ hx)
/-- marks that do not stand ahead are gone past -/
theorem takeN_skip : ∀ (ms ms' : List (List Nat)) (i n : Nat) (ws : List Word), (∀ m ∈ ms, VbenCore.ahead m ws = false) → takeN (ms ++ ms') i n ws = takeN ms' (i + ms.length) n ws
  | [], _, _, _, _, _ => rfl
  | m :: ms, ms', i, n, ws, h => by
    rw [List.cons_append, takeN, if_neg (by rw [h m List.mem_cons_self]; exact Bool.false_ne_true), takeN_skip ms ms' (i + 1) n ws fun x hx => h x (List.mem_cons_of_mem _ hx), List.length_cons]
    congr 1; omega
theorem marks_take (f : File) (e : Nat) (nd : f.marks.Nodup) (nm : okNames f.marks) : ∀ (g lo n : Nat) (ws : List Word), f.marks.length - lo ≤ g → lo ≤ f.marks.length →
    Vbenae.marksIn f e g lo n ws = (let r := takeN (f.marks.drop lo) lo n ws; if r.2.isEmpty = true ∨ VbenCore.ahead [10] r.2 = true then .ok r else .error (VbenCore.placeOf e r.2)) := by
  intro g
  induction g with
  | zero =>
    intro lo n ws hg hlo
    have : f.marks.drop lo = [] := List.drop_eq_nil_of_le (by omega)
    rw [this]
    rfl
  | succ g ih =>
    intro lo n ws hg hlo
    cases ws with
    | nil =>
      rw [takeN_none _ _ _ _ (fun m _ => rfl)]
      rfl
    | cons w r =>
      have ahd : ∀ m, VbenCore.ahead m (w :: r) = (w.2 == m) := fun m => rfl
      rw [Vbenae.marksIn]
      by_cases ha : VbenCore.ahead [10] (w :: r) = true
      · rw [if_pos (.inr ha)]
        have h10 : w.2 = [10] := by
          rw [ahd] at ha
          simpa using ha
        rw [takeN_none]
        · show _ = (if _ ∨ VbenCore.ahead [10] (w :: r) = true then _ else _)
          rw [if_pos (.inr ha)]
        · intro m hm
          have hnm := nm m (List.mem_of_mem_drop hm)
          rw [ahd, h10]
          cases hb : ([10] == m)
          · rfl
          · have : [10] = m := by simpa using hb
            rw [← this] at hnm
            exact absurd hnm (by decide)
      · rw [if_neg (by rintro (h | h); cases h; exact ha h)]
        dsimp only
        have fin : (∀ m ∈ f.marks.drop lo, VbenCore.ahead m (w :: r) = false) → (.error w.1 : Except Nat (Nat × List Word)) = (let r' := takeN (f.marks.drop lo) lo n (w :: r); if r'.2.isEmpty = true ∨ VbenCore.ahead [10] r'.2 = true then .ok r' else .error (VbenCore.placeOf e r'.2)) := fun hno => by
          rw [takeN_none _ _ _ _ hno]
          show _ = (if _ ∨ VbenCore.ahead [10] (w :: r) = true then _ else _)
          rw [if_neg (by rintro (h | h); cases h; exact ha h)] <;> rfl
        cases hm : Vbenae.markOf f w.2 with
        | none =>
          have hn := markOf_none hm
          refine fin fun m hmm => ?_
          rw [ahd]
          cases hb : (w.2 == m)
          · rfl
          · have : w.2 = m := by simpa using hb
            exact absurd (this ▸ List.mem_of_mem_drop hmm) hn
        | some m =>
          obtain ⟨h1, h2⟩ := markOf_at hm
          have hml : m < f.marks.length := (List.getElem?_eq_some_iff.mp h1).1
          dsimp only
          by_cases hlt : m < lo
          · rw [if_pos hlt]
            refine fin fun x hx => ?_
            rw [ahd]
            cases hb : (w.2 == x)
            · rfl
            · have he : w.2 = x := by simpa using hb
              obtain ⟨j, hj⟩ := List.getElem?_of_mem hx
              rw [List.getElem?_drop, ← he] at hj
              have := nd_ix nd h1 hj
              omega
          · rw [if_neg hlt, ih (m + 1) (n + 2 ^ m) r (by omega) (by omega)]
            have split : f.marks.drop lo = (f.marks.drop lo).take (m - lo) ++ f.marks.drop m := by
              have : f.marks.drop m = (f.marks.drop lo).drop (m - lo) := by rw [List.drop_drop]; congr 1; omega
              rw [this, List.take_append_drop]
            rw [split, takeN_skip]
            · have hlen : ((f.marks.drop lo).take (m - lo)).length = m - lo := by
                rw [List.length_take, List.length_drop]; omega
              have hdm : f.marks.drop m = w.2 :: f.marks.drop (m + 1) := by
                rw [List.drop_eq_getElem_cons hml]
                congr 1
                exact (List.getElem?_eq_some_iff.mp h1).2
              have hstep : takeN (w.2 :: f.marks.drop (m + 1)) m n (w :: r) = takeN (f.marks.drop (m + 1)) (m + 1) (n + 2 ^ m) r := by
                rw [takeN]
                exact if_pos (by rw [ahd]; simp)
              rw [hlen, show lo + (m - lo) = m by omega, hdm, hstep]
            · intro x hx
              rw [ahd]
              cases hb : (w.2 == x)
              · rfl
              · have he : w.2 = x := by simpa using hb
                obtain ⟨j, hj⟩ := List.getElem?_of_mem hx
                have hjl : j < m - lo := by
                  have := (List.getElem?_eq_some_iff.mp hj).1
                  rw [List.length_take] at this
                  omega
                rw [List.getElem?_take_of_lt hjl, List.getElem?_drop, ← he] at hj
                exact absurd hj (h2 (lo + j) (by omega))
end N
namespace NC
open Vbenae VbenCore
/-! ### the parser: what is left, and that the fuel is enough -/
def jw (what : Nat) : Bytes := if what = 0 then W "or" else W "and"
def jn (what : Nat) (a b : Ask) : Ask := if what = 0 then .or_ a b else .and_ a b
abbrev PR := Except Nat (Ask × List Word)
theorem part_zero (f : File) (e what lev : Nat) (had : Option Ask) (ws : List Word) : part f e 0 what lev had ws = .error (placeOf e ws) := rfl
theorem part_none (f : File) (e g what lev : Nat) (ws : List Word) (h : what < 2) : part f e (g + 1) what lev none ws = (match part f e g (what + 1) lev none ws with
    | .error p => .error p
    | .ok r => part f e g what lev (some r.1) r.2) := by
  rw [part.eq_def]
  dsimp only
  rw [if_pos h]
  cases part f e g (what + 1) lev none ws <;> rfl
theorem part_some (f : File) (e g what lev : Nat) (a : Ask) (ws : List Word) (h : what < 2) : part f e (g + 1) what lev (some a) ws = (if ahead (jw what) ws = true then
    (match part f e g (what + 1) lev none (ws.drop 1) with
    | .error p => .error p
    | .ok r => part f e g what lev (some (jn what a r.1)) r.2) else .ok (a, ws)) := by
  rw [part.eq_def]
  dsimp only
  rw [if_pos h]
  show (if ahead (jw what) ws = true then _ else _) = _
  split
  · cases part f e g (what + 1) lev none (ws.drop 1) <;> rfl
  · rfl
/-- one part that is no join -/
def one (f : File) (e lev : Nat) (rec2 rec0 : List Word → PR) : List Word → PR
  | [] => .error e
  | w :: ws =>
      if w.2 = W "all" then .ok (.all, ws)
      else if w.2 = W "none" then .ok (.none_, ws)
      else if w.2 = W "not" then (if lev = 0 then .error w.1 else match rec2 ws with
        | .error p => .error p
        | .ok r => .ok (.not_ r.1, r.2))
      else if w.2 = OPEN_ then (if lev = 0 then .error w.1 else match rec0 ws with
        | .error p => .error p
        | .ok r => match must e SHUT r.2 with
          | .error p => .error p
          | .ok ws' => .ok (r.1, ws'))
      else match markOf f w.2 with
        | none => .error w.1
        | some m => .ok (.mark m, ws)
theorem part_two (f : File) (e g lev : Nat) (had : Option Ask) (ws : List Word) : part f e (g + 1) 2 lev had ws = one f e lev (part f e g 2 (lev - 1) none) (part f e g 0 (lev - 1) none) ws := by
  rw [part.eq_def]
  dsimp only
  rw [if_neg (by decide)]
  cases ws with
  | nil => rfl
  | cons w ws =>
    dsimp only [one]
    split
    · rfl
    split
    · rfl
    split
    · split
      · rfl
      · cases part f e g 2 (lev - 1) none ws <;> rfl
    split
    · split
      · rfl
      · cases part f e g 0 (lev - 1) none ws with
        | error p => rfl
        | ok r =>
          show (do
            let ws ← must e SHUT r.2
            return (r.1, ws)) = _
          dsimp only
          cases must e SHUT r.2 <;> rfl
    · rfl
def lack (had : Option Ask) : Nat := match had with | none => 1 | some _ => 0
theorem must_len {e : Nat} {b : Bytes} {ws ws' : List Word} (h : must e b ws = .ok ws') : ws'.length + 1 = ws.length := by
  cases ws with
  | nil => cases h
  | cons w r =>
    dsimp only [must] at h
    split at h
    · cases h; rfl
    · cases h
theorem one_len {f : File} {e lev : Nat} {r2 r0 : List Word → PR} (h2 : ∀ ws a ws', r2 ws = .ok (a, ws') → ws'.length + 1 ≤ ws.length) (h0 : ∀ ws a ws', r0 ws = .ok (a, ws') → ws'.length + 1 ≤ ws.length) :
    ∀ ws a ws', one f e lev r2 r0 ws = .ok (a, ws') → ws'.length + 1 ≤ ws.length := by
  intro ws a ws' h
  cases ws with
  | nil => cases h
  | cons w ws =>
    dsimp only [one] at h
    split at h
    · cases h; simp
    split at h
    · cases h; simp
    split at h
    · split at h
      · cases h
      · cases hr : r2 ws with
        | error p => rw [hr] at h; cases h
        | ok r =>
          rw [hr] at h
          cases h
          have := h2 ws r.1 r.2 hr
          simp; omega
    split at h
    · split at h
      · cases h
      · cases hr : r0 ws with
        | error p => rw [hr] at h; cases h
        | ok r =>
          rw [hr] at h
          dsimp only at h
          cases hm : must e SHUT r.2 with
          | error p => rw [hm] at h; cases h
          | ok w2 =>
            rw [hm] at h
            cases h
            have := h0 ws r.1 r.2 hr
            have := must_len hm
            simp; omega
    · split at h
      · cases h
      · cases h; simp
theorem part_len (f : File) (e : Nat) : ∀ g what lev had ws a ws', what ≤ 2 → (what = 2 → had = none) → part f e g what lev had ws = .ok (a, ws') → ws'.length + lack had ≤ ws.length := by
  intro g
  induction g with
  | zero =>
    intro what lev had ws a ws' _ _ h
    cases h
  | succ g ih =>
    intro what lev had ws a ws' hw hh h
    by_cases h2 : what = 2
    · subst h2
      cases hh rfl
      rw [part_two] at h
      exact one_len (fun ws a ws' z => ih 2 _ none ws a ws' (by omega) (fun _ => rfl) z) (fun ws a ws' z => ih 0 _ none ws a ws' (by omega) (fun z => by cases z) z) ws a ws' h
    · have hw' : what < 2 := by omega
      cases had with
      | none =>
        rw [part_none _ _ _ _ _ _ hw'] at h
        cases hr : part f e g (what + 1) lev none ws with
        | error p => rw [hr] at h; cases h
        | ok r =>
          rw [hr] at h
          have l1 := ih _ _ _ _ r.1 r.2 (by omega) (fun _ => rfl) hr
          have l2 := ih _ _ _ _ _ _ (by omega) (fun z => absurd z h2) h
          simp only [lack] at *
          omega
      | some b =>
        rw [part_some _ _ _ _ _ _ _ hw'] at h
        split at h
        · cases hr : part f e g (what + 1) lev none (ws.drop 1) with
          | error p => rw [hr] at h; cases h
          | ok r =>
            rw [hr] at h
            have l1 := ih _ _ _ _ r.1 r.2 (by omega) (fun _ => rfl) hr
            have l2 := ih _ _ _ _ _ _ (by omega) (fun z => absurd z h2) h
            simp only [lack, List.length_drop] at *
            omega
        · cases h
          simp [lack]
def need (what : Nat) (had : Option Ask) (n : Nat) : Nat := 4 * n + (match had with | none => 3 - what | some _ => 1)
theorem ahead_len {b : Bytes} {ws : List Word} (h : ahead b ws = true) : 1 ≤ ws.length := by
  cases ws with
  | nil => cases h
  | cons w r => simp
theorem part_stab (f : File) (e : Nat) : ∀ g what lev had ws, what ≤ 2 → (what = 2 → had = none) → need what had ws.length ≤ g → part f e (g + 1) what lev had ws = part f e g what lev had ws := by
  intro g
  induction g with
  | zero =>
    intro what lev had ws hw hh h
    unfold need at h
    cases had with
    | none =>
      dsimp only at h
      omega
    | some _ => dsimp only at h; omega
  | succ g ih =>
    intro what lev had ws hw hh h
    by_cases h2 : what = 2
    · subst h2
      cases hh rfl
      rw [part_two, part_two]
      cases ws with
      | nil => rfl
      | cons w ws =>
        have e2 : part f e (g + 1) 2 (lev - 1) none ws = part f e g 2 (lev - 1) none ws := ih _ _ _ _ (by omega) (fun _ => rfl) (by simp only [need, List.length_cons] at *; omega)
        have e0 : part f e (g + 1) 0 (lev - 1) none ws = part f e g 0 (lev - 1) none ws := ih _ _ _ _ (by omega) (fun z => by cases z) (by simp only [need, List.length_cons] at *; omega)
        dsimp only [one]
        rw [e2, e0]
    · have hw' : what < 2 := by omega
      cases had with
      | none =>
        rw [part_none _ _ _ _ _ _ hw', part_none _ _ _ _ _ _ hw']
        have e1 : part f e (g + 1) (what + 1) lev none ws = part f e g (what + 1) lev none ws := ih _ _ _ _ (by omega) (fun _ => rfl) (by simp only [need] at *; omega)
        rw [e1]
        cases hr : part f e g (what + 1) lev none ws with
        | error p => rfl
        | ok r =>
          have l1 := part_len f e _ _ _ _ _ r.1 r.2 (by omega) (fun _ => rfl) hr
          exact ih _ _ _ _ (by omega) (fun z => absurd z h2) (by simp only [need, lack] at *; omega)
      | some b =>
        rw [part_some _ _ _ _ _ _ _ hw', part_some _ _ _ _ _ _ _ hw']
        split
        · rename_i ha
          have la := ahead_len ha
          have e1 : part f e (g + 1) (what + 1) lev none (ws.drop 1) = part f e g (what + 1) lev none (ws.drop 1) := ih _ _ _ _ (by omega) (fun _ => rfl) (by simp only [need, List.length_drop] at *; omega)
          rw [e1]
          cases hr : part f e g (what + 1) lev none (ws.drop 1) with
          | error p => rfl
          | ok r =>
            have l1 := part_len f e _ _ _ _ _ r.1 r.2 (by omega) (fun _ => rfl) hr
            exact ih _ _ _ _ (by omega) (fun z => absurd z h2) (by simp only [need, lack, List.length_drop] at *; omega)
        · rfl
theorem part_fuel (f : File) (e : Nat) (what lev : Nat) (had : Option Ask) (ws : List Word) (hw : what ≤ 2) (hh : what = 2 → had = none) : ∀ d, part f e (need what had ws.length + d) what lev had ws = part f e (need what had ws.length) what lev had ws
  | 0 => rfl
  | d + 1 => (part_stab f e _ what lev had ws hw hh (Nat.le_add_right _ _)).trans (part_fuel f e what lev had ws hw hh d)
/-- a part, with fuel enough -/
def P (f : File) (e what lev : Nat) (had : Option Ask) (ws : List Word) : PR := part f e (need what had ws.length) what lev had ws
theorem P_of (f : File) (e what lev : Nat) (had : Option Ask) (ws : List Word) (hw : what ≤ 2) (hh : what = 2 → had = none) {g : Nat} (h : need what had ws.length ≤ g) : part f e g what lev had ws = P f e what lev had ws := by
  obtain ⟨d, rfl⟩ := Nat.le.dest h
  exact part_fuel f e what lev had ws hw hh d
theorem P_ask (f : File) (e : Nat) (ws : List Word) : askIn f e ws = P f e 0 LEVELS none ws := P_of f e 0 LEVELS none ws (by omega) (fun z => by cases z) (by simp only [need]; omega)
theorem P_none (f : File) (e what lev : Nat) (ws : List Word) (h : what < 2) : P f e what lev none ws = (match P f e (what + 1) lev none ws with
    | .error p => .error p
    | .ok r => P f e what lev (some r.1) r.2) := by
  have q : P f e what lev none ws = part f e (need what none ws.length + 1) what lev none ws := (P_of f e what lev none ws (by omega) (fun z => by omega) (by omega)).symm
  rw [q, part_none _ _ _ _ _ _ h, P_of f e (what + 1) lev none ws (by omega) (fun _ => rfl) (by simp only [need]; omega)]
  cases hr : P f e (what + 1) lev none ws with
  | error p => rfl
  | ok r =>
    have l := part_len f e _ _ _ _ _ r.1 r.2 (by omega) (fun _ => rfl) hr
    exact P_of f e what lev (some r.1) r.2 (by omega) (fun z => by omega) (by simp only [need, lack] at *; omega)
theorem P_some (f : File) (e what lev : Nat) (a : Ask) (ws : List Word) (h : what < 2) : P f e what lev (some a) ws = (if ahead (jw what) ws = true then
    (match P f e (what + 1) lev none (ws.drop 1) with
    | .error p => .error p
    | .ok r => P f e what lev (some (jn what a r.1)) r.2) else .ok (a, ws)) := by
  have q : P f e what lev (some a) ws = part f e (need what (some a) ws.length + 1) what lev (some a) ws := (P_of f e what lev (some a) ws (by omega) (fun z => by omega) (by omega)).symm
  rw [q, part_some _ _ _ _ _ _ _ h]
  split
  · rename_i ha
    have la := ahead_len ha
    rw [P_of f e (what + 1) lev none (ws.drop 1) (by omega) (fun _ => rfl) (by simp only [need, List.length_drop]; omega)]
    cases hr : P f e (what + 1) lev none (ws.drop 1) with
    | error p => rfl
    | ok r =>
      have l := part_len f e _ _ _ _ _ r.1 r.2 (by omega) (fun _ => rfl) hr
      exact P_of f e what lev _ r.2 (by omega) (fun z => by omega) (by simp only [need, lack, List.length_drop] at *; omega)
  · rfl
theorem P_two (f : File) (e lev : Nat) (ws : List Word) : P f e 2 lev none ws = one f e lev (P f e 2 (lev - 1) none) (P f e 0 (lev - 1) none) ws := by
  have q : P f e 2 lev none ws = part f e (need 2 none ws.length + 1) 2 lev none ws := (P_of f e 2 lev none ws (by omega) (fun _ => rfl) (by omega)).symm
  rw [q, part_two]
  cases ws with
  | nil => rfl
  | cons w ws =>
    have e2 := P_of f e 2 (lev - 1) none ws (by omega) (fun _ => rfl) (g := need 2 none (w :: ws).length) (by simp only [need, List.length_cons]; omega)
    have e0 := P_of f e 0 (lev - 1) none ws (by omega) (fun z => by cases z) (g := need 2 none (w :: ws).length) (by simp only [need, List.length_cons]; omega)
    dsimp only [one]
    rw [e2, e0]
theorem P_len {f : File} {e what lev : Nat} {had : Option Ask} {ws : List Word} {r : Ask × List Word} (hw : what ≤ 2) (hh : what = 2 → had = none) (h : P f e what lev had ws = .ok r) : r.2.length + lack had ≤ ws.length :=
  part_len f e _ _ _ _ _ r.1 r.2 hw hh h
end NC
namespace N
open PySem PySem.Spec PyProof.Rows L2 NX
open Vbenae (File Line Ask W)
open VbenCore (Word)
/-! ### sizes of what is read -/
theorem one_size {f : File} {e lev : Nat} {r2 r0 : List Word → NC.PR} (h2 : ∀ ws r, r2 ws = .ok r → asz r.1 + r.2.length ≤ ws.length) (h0 : ∀ ws r, r0 ws = .ok r → asz r.1 + r.2.length ≤ ws.length) :
    ∀ ws r, NC.one f e lev r2 r0 ws = .ok r → asz r.1 + r.2.length ≤ ws.length := by
  intro ws r h
  cases ws with
  | nil => cases h
  | cons w ws =>
    dsimp only [NC.one] at h
    split at h
    · cases h; simp [asz]; omega
    split at h
    · cases h; simp [asz]; omega
    split at h
    · split at h
      · cases h
      · cases hr : r2 ws with
        | error p => rw [hr] at h; cases h
        | ok q =>
          rw [hr] at h
          cases h
          have := h2 ws q hr
          simp [asz]; omega
    split at h
    · split at h
      · cases h
      · cases hr : r0 ws with
        | error p => rw [hr] at h; cases h
        | ok q =>
          rw [hr] at h
          dsimp only at h
          cases hm : VbenCore.must e Vbenae.SHUT q.2 with
          | error p => rw [hm] at h; cases h
          | ok w2 =>
            rw [hm] at h
            cases h
            have := h0 ws q hr
            have := NC.must_len hm
            simp; omega
    · split at h
      · cases h
      · cases h; simp [asz]; omega
def hadSz : Option Ask → Nat
  | none => 0
  | some a => asz a
theorem part_size (f : File) (e : Nat) : ∀ g what lev had ws r, what ≤ 2 → (what = 2 → had = none) → Vbenae.part f e g what lev had ws = .ok r → asz r.1 + r.2.length ≤ hadSz had + ws.length := by
  intro g
  induction g with
  | zero =>
    intro what lev had ws r _ _ h
    cases h
  | succ g ih =>
    intro what lev had ws r hw hh h
    by_cases h2 : what = 2
    · subst h2
      cases hh rfl
      rw [NC.part_two] at h
      have := one_size (fun ws r z => by have := ih 2 _ none ws r (by omega) (fun _ => rfl) z; simpa [hadSz] using this) (fun ws r z => by have := ih 0 _ none ws r (by omega) (fun z => by cases z) z; simpa [hadSz] using this) ws r h
      simpa [hadSz] using this
    · have hw' : what < 2 := by omega
      cases had with
      | none =>
        rw [NC.part_none _ _ _ _ _ _ hw'] at h
        cases hr : Vbenae.part f e g (what + 1) lev none ws with
        | error p => rw [hr] at h; cases h
        | ok q =>
          rw [hr] at h
          have l1 := ih _ _ _ _ q (by omega) (fun _ => rfl) hr
          have l2 := ih _ _ _ _ _ (by omega) (fun z => absurd z h2) h
          simp only [hadSz] at *
          omega
      | some b =>
        rw [NC.part_some _ _ _ _ _ _ _ hw'] at h
        split at h
        · rename_i ha
          have hl := NC.ahead_len ha
          cases hr : Vbenae.part f e g (what + 1) lev none (ws.drop 1) with
          | error p => rw [hr] at h; cases h
          | ok q =>
            rw [hr] at h
            have l1 := ih _ _ _ _ q (by omega) (fun _ => rfl) hr
            have l2 := ih _ _ _ _ _ (by omega) (fun z => absurd z h2) h
            have e1 : asz (NC.jn what b q.1) = asz b + asz q.1 + 1 := by
              unfold NC.jn
              split <;> rfl
            simp only [hadSz, e1, List.length_drop] at *
            omega
        · cases h
          simp [hadSz]
theorem P_size {f : File} {e what lev : Nat} {had : Option Ask} {ws : List Word} {r : Ask × List Word} (hw : what ≤ 2) (hh : what = 2 → had = none) (h : NC.P f e what lev had ws = .ok r) : asz r.1 + r.2.length ≤ hadSz had + ws.length := part_size f e _ _ _ _ _ r hw hh h
/-- what is left of the words is a part of them -/
theorem shortW.drop {ws : List Word} (n : Nat) (h : shortW ws) : shortW (ws.drop n) := fun x hx => h x (List.mem_of_mem_drop hx)
/-! ### promises -/
abbrev fileOf (ms : List (List Nat)) : File := ⟨ms, [], []⟩
/-- what a reader of a part gives, the words ws ahead -/
def Gives (H : Hp) (c wl : Addr) (e : Nat) (ms : List (List Nat)) (Q : VK) (E : XK) (r : NC.PR) : Prop := match r with
  | .error p => Rt H E p
  | .ok (a, w1) => ∀ H' v, Fr a_Cursor H H' → CurW H' c wl e w1 → PartAt H' ms a v → Q v H'
def sp_part (what l : Nat) : Sp := fun vs H Q E => ∃ c wl e ws b ms, vs = [.ref c, .ref b, .int ((8 - l : Nat) : Int)] ∧ CurW H c wl e ws ∧ H b = some (.lst (ms.map tx)) ∧ okNames ms ∧ ms.length ≤ 6 ∧ ws.length ≤ 6000 ∧ (∀ m ∈ ms, Vbenae.isMarkName m = true) ∧
  Gives H c wl e ms Q E (NC.P (fileOf ms) e what l none ws)
end N
namespace N
open PySem PySem.Spec PyProof.Rows L2 NX
open Vbenae (File Line Ask W)
open VbenCore (Word)
theorem mark_name {m : List Nat} (h : Vbenae.isMarkName m = true) : VbenCore.isName m = true := (Bool.and_eq_true_iff.mp h).1
theorem key_or : (W "or").all isSign = true ∧ W "or" ≠ [46] := by decide +kernel
theorem key_and : (W "and").all isSign = true ∧ W "and" ≠ [46] := by decide +kernel
theorem key_not : (W "not").all isSign = true ∧ W "not" ≠ [46] := by decide +kernel
theorem key_all : (W "all").all isSign = true ∧ W "all" ≠ [46] := by decide +kernel
theorem key_none : (W "none").all isSign = true ∧ W "none" ≠ [46] := by decide +kernel
theorem key_op : ([40] : List Nat).all isSign = true ∧ ([40] : List Nat) ≠ [46] := by decide +kernel
theorem key_sh : ([41] : List Nat).all isSign = true ∧ ([41] : List Nat) ≠ [46] := by decide +kernel
theorem aT_short {ms : List (List Nat)} (hm : ∀ m ∈ ms, Vbenae.isMarkName m = true) {a : Ask} {n : Nat} (h : asz a ≤ n) (hn : n ≤ 7000) : (aT ms a).length ≤ 100000 := by
  have := aT_len (ms := ms) (fun m hx => (name_signs (mark_name (hm m hx))).2) a
  omega
theorem Rt.gives {H H' : Hp} {c wl : Addr} {e : Nat} {ms : List (List Nat)} {Q : VK} {E : XK} {r : NC.PR} (h : Gives H c wl e ms Q E r) (f : Fr a_Cursor H H') : Gives H' c wl e ms Q E r := by
  cases r with
  | error p => exact Rt.fr h f
  | ok x => exact fun H2 v f2 hc hp => h H2 v (frt f f2) hc hp
section
variable {P : Program} {w : World} {K : PySem.W.Frag} {mg : Str → Option Value} {base : Heap}
theorem sc_read_both : FnScope ["cursor", "marks", "opened", "part"] ["cursor", "marks", "opened"] (defScope s_read_both) := C8.fnScope_by (by decide +kernel)
theorem both_of (T : Tx K mg) (l k : Nat) (hk : 4 ≤ k) (c1 : Cal P w K mg base (L2.CX P w) k "read_one" a_read_one (sp_part 2 l)) : Cal P w K mg base (L2.CX P w) (k + 1) "read_both" a_read_both (sp_part 1 l) := by
  obtain ⟨fd, F⟩ := T.d_read_both
  refine ⟨⟨fd, ["cursor", "marks", "opened"], F.okX sc_read_both (fun vs H Q E h => by obtain ⟨c, wl, e, ws, b, ms, rfl, _⟩ := h; rfl) (fun cdv A outer s H vs Q E hr h => ⟨_, pss_cons (ps_set (i := 3) sc_read_both.nd rfl (Or.inl rfl) (pe_fX c1 hr (by omega) (passes_call (takes_of rfl rfl rfl rfl) fun _ _ _ _ z => z) rfl (pa_cons (pv 0) (pa_cons (pv 1) (pa_cons (pv 2) pa_nil)))))
    (pss_cons (ps_while (passes_of rfl) (pt_cmpR op_eq (pe_o0 (c_Cursor_word T) hr (by omega) (pv 0)) pe_str (nomark _))
    (pss_cons (ps_expr (pe_o0 (c_Cursor_advance T) hr (by omega) (pv 0)))
    (pss_one (ps_set (i := 3) sc_read_both.nd rfl (Or.inl rfl) (pe_f (c_and_part T) hr (by omega) rfl (pa_cons (pv 3) (pa_cons (pe_fX c1 hr (by omega) (passes_call (takes_of rfl rfl rfl rfl) fun _ _ _ _ z => z) rfl (pa_cons (pv 0) (pa_cons (pv 1) (pa_cons (pv 2) pa_nil)))) pa_nil)))))))
    (pss_one (ps_ret (pv 3)))), ?_⟩), F.binds fun _ _ _ _ _ _ us hl => match us, hl with | [_, _, _], _ => rfl⟩, T.g_read_both, F.kp⟩
  obtain ⟨c, wl, e, ws, b, ms, rfl, hc, hb, nm, wm, wl6, hmk, q⟩ := h
  rw [NC.P_none _ _ _ _ _ (by decide)] at q
  refine ⟨_, rfl, _, rfl, _, rfl, c, wl, e, ws, b, ms, rfl, hc, hb, nm, wm, wl6, hmk, ?_⟩
  cases h1 : NC.P (fileOf ms) e 2 l none ws with
  | error p =>
    rw [show NC.P (fileOf ms) e (1 + 1) l none ws = .error p from h1] at q
    exact q
  | ok r1 =>
    obtain ⟨a1, w1⟩ := r1
    rw [show NC.P (fileOf ms) e (1 + 1) l none ws = .ok (a1, w1) from h1] at q
    have s1 := P_size (by decide) (fun _ => rfl) h1
    intro H1 v1 f1 hc1 hp1
    refine ⟨fun m σ H' => ∃ (a : Ask) (rs : List Word) (v : V), σ = [some (.ref c), some (.ref b), some (.int ((8 - l : Nat) : Int)), some v] ∧ m = rs.length ∧ Fr a_Cursor H H' ∧ CurW H' c wl e rs ∧ PartAt H' ms a v ∧ asz a + rs.length ≤ ws.length ∧ Gives H' c wl e ms Q E (NC.P (fileOf ms) e 1 l (some a) rs),
      ⟨_, a1, w1, v1, rfl, rfl, f1, hc1, hp1, by simpa [hadSz] using s1, Rt.gives q f1⟩, ?_⟩
    rintro m σ H' ⟨a, rs, v, rfl, rfl, f, hcr, hpv, hsz, g⟩
    have hkey := hd_key key_and.1 key_and.2 e rs
    rw [NC.P_some _ _ _ _ _ _ (by decide)] at g
    refine ⟨_, rfl, rd_word hcr ⟨rfl, _, rfl, ?_⟩⟩
    by_cases ha : VbenCore.ahead (W "and") rs = true
    · refine ifT (tx_inj.mpr (hkey.mpr ha)) ⟨fun σ' H2 => _, fun _ _ z => z, ?_⟩
      rw [show NC.jw 1 = W "and" from rfl, if_pos ha] at g
      cases rs with
      | nil => cases ha
      | cons w2 r2 =>
        refine ⟨_, rfl, rd_adv hcr fun H2 f2 hc2 => ?_⟩
        have g2 := Rt.gives g f2
        refine ⟨_, rfl, _, rfl, _, rfl, _, rfl, c, wl, e, r2, b, ms, rfl, hc2, frs_l (K := K) (frt f f2) hb, nm, wm, by simp at hsz; omega, hmk, ?_⟩
        cases h3 : NC.P (fileOf ms) e 2 l none r2 with
        | error p =>
          rw [show NC.P (fileOf ms) e (1 + 1) l none (List.drop 1 (w2 :: r2)) = .error p from h3] at g2
          exact g2
        | ok r3 =>
          obtain ⟨a3, w3⟩ := r3
          rw [show NC.P (fileOf ms) e (1 + 1) l none (List.drop 1 (w2 :: r2)) = .ok (a3, w3) from h3] at g2
          have s3 := P_size (by decide) (fun _ => rfl) h3
          simp only [hadSz, List.length_cons] at s3 hsz
          intro H3 v3 f3 hc3 hp3
          refine ⟨v, v3, ms, a, a3, rfl, hpv.fr (by decide) (frt f2 f3), hp3, wm, aT_short hmk (n := 6000) (by omega) (by omega), aT_short hmk (n := 6000) (by omega) (by omega), fun H4 v4 e4 hp4 => ?_⟩
          refine ⟨w3.length, by simp; omega, .and_ a a3, w3, v4, rfl, rfl, frt (frt (frt f f2) f3) (frx e4), hc3.ex e4, hp4, by simp [asz]; omega, Rt.gives g2 (frt f3 (frx e4))⟩
    · refine ifF (fun z => ha (hkey.mp (tx_inj.mp z))) ?_
      rw [show NC.jw 1 = W "and" from rfl, if_neg ha] at g
      exact ⟨_, rfl, g H' v frr hcr hpv⟩
theorem sc_read_either : FnScope ["cursor", "marks", "opened", "part"] ["cursor", "marks", "opened"] (defScope s_read_either) := C8.fnScope_by (by decide +kernel)
theorem either_of (T : Tx K mg) (l k : Nat) (hk : 4 ≤ k) (cB : Cal P w K mg base (L2.CX P w) k "read_both" a_read_both (sp_part 1 l)) : Cal P w K mg base (L2.CX P w) (k + 1) "read_either" a_read_either (sp_part 0 l) := by
  obtain ⟨fd, F⟩ := T.d_read_either
  refine ⟨⟨fd, ["cursor", "marks", "opened"], F.okX sc_read_either (fun vs H Q E h => by obtain ⟨c, wl, e, ws, b, ms, rfl, _⟩ := h; rfl) (fun cdv A outer s H vs Q E hr h => ⟨_, pss_cons (ps_set (i := 3) sc_read_either.nd rfl (Or.inl rfl) (pe_fX cB hr (by omega) (passes_call (takes_of rfl rfl rfl rfl) fun _ _ _ _ z => z) rfl (pa_cons (pv 0) (pa_cons (pv 1) (pa_cons (pv 2) pa_nil)))))
    (pss_cons (ps_while (passes_of rfl) (pt_cmpR op_eq (pe_o0 (c_Cursor_word T) hr (by omega) (pv 0)) pe_str (nomark _))
    (pss_cons (ps_expr (pe_o0 (c_Cursor_advance T) hr (by omega) (pv 0)))
    (pss_one (ps_set (i := 3) sc_read_either.nd rfl (Or.inl rfl) (pe_f (c_or_part T) hr (by omega) rfl (pa_cons (pv 3) (pa_cons (pe_fX cB hr (by omega) (passes_call (takes_of rfl rfl rfl rfl) fun _ _ _ _ z => z) rfl (pa_cons (pv 0) (pa_cons (pv 1) (pa_cons (pv 2) pa_nil)))) pa_nil)))))))
    (pss_one (ps_ret (pv 3)))), ?_⟩), F.binds fun _ _ _ _ _ _ us hl => match us, hl with | [_, _, _], _ => rfl⟩, T.g_read_either, F.kp⟩
  obtain ⟨c, wl, e, ws, b, ms, rfl, hc, hb, nm, wm, wl6, hmk, q⟩ := h
  rw [NC.P_none _ _ _ _ _ (by decide)] at q
  refine ⟨_, rfl, _, rfl, _, rfl, c, wl, e, ws, b, ms, rfl, hc, hb, nm, wm, wl6, hmk, ?_⟩
  cases h1 : NC.P (fileOf ms) e 1 l none ws with
  | error p =>
    rw [show NC.P (fileOf ms) e (0 + 1) l none ws = .error p from h1] at q
    exact q
  | ok r1 =>
    obtain ⟨a1, w1⟩ := r1
    rw [show NC.P (fileOf ms) e (0 + 1) l none ws = .ok (a1, w1) from h1] at q
    have s1 := P_size (by decide) (fun z => by cases z) h1
    intro H1 v1 f1 hc1 hp1
    refine ⟨fun m σ H' => ∃ (a : Ask) (rs : List Word) (v : V), σ = [some (.ref c), some (.ref b), some (.int ((8 - l : Nat) : Int)), some v] ∧ m = rs.length ∧ Fr a_Cursor H H' ∧ CurW H' c wl e rs ∧ PartAt H' ms a v ∧ asz a + rs.length ≤ ws.length ∧ Gives H' c wl e ms Q E (NC.P (fileOf ms) e 0 l (some a) rs),
      ⟨_, a1, w1, v1, rfl, rfl, f1, hc1, hp1, by simpa [hadSz] using s1, Rt.gives q f1⟩, ?_⟩
    rintro m σ H' ⟨a, rs, v, rfl, rfl, f, hcr, hpv, hsz, g⟩
    have hkey := hd_key key_or.1 key_or.2 e rs
    rw [NC.P_some _ _ _ _ _ _ (by decide)] at g
    refine ⟨_, rfl, rd_word hcr ⟨rfl, _, rfl, ?_⟩⟩
    by_cases ha : VbenCore.ahead (W "or") rs = true
    · refine ifT (tx_inj.mpr (hkey.mpr ha)) ⟨fun σ' H2 => _, fun _ _ z => z, ?_⟩
      rw [show NC.jw 0 = W "or" from rfl, if_pos ha] at g
      cases rs with
      | nil => cases ha
      | cons w2 r2 =>
        refine ⟨_, rfl, rd_adv hcr fun H2 f2 hc2 => ?_⟩
        have g2 := Rt.gives g f2
        refine ⟨_, rfl, _, rfl, _, rfl, _, rfl, c, wl, e, r2, b, ms, rfl, hc2, frs_l (K := K) (frt f f2) hb, nm, wm, by simp at hsz; omega, hmk, ?_⟩
        cases h3 : NC.P (fileOf ms) e 1 l none r2 with
        | error p =>
          rw [show NC.P (fileOf ms) e (0 + 1) l none (List.drop 1 (w2 :: r2)) = .error p from h3] at g2
          exact g2
        | ok r3 =>
          obtain ⟨a3, w3⟩ := r3
          rw [show NC.P (fileOf ms) e (0 + 1) l none (List.drop 1 (w2 :: r2)) = .ok (a3, w3) from h3] at g2
          have s3 := P_size (by decide) (fun z => by cases z) h3
          simp only [hadSz, List.length_cons] at s3 hsz
          intro H3 v3 f3 hc3 hp3
          refine ⟨v, v3, ms, a, a3, rfl, hpv.fr (by decide) (frt f2 f3), hp3, wm, aT_short hmk (n := 6000) (by omega) (by omega), aT_short hmk (n := 6000) (by omega) (by omega), fun H4 v4 e4 hp4 => ?_⟩
          refine ⟨w3.length, by simp; omega, .or_ a a3, w3, v4, rfl, rfl, frt (frt (frt f f2) f3) (frx e4), hc3.ex e4, hp4, by simp [asz]; omega, Rt.gives g2 (frt f3 (frx e4))⟩
    · refine ifF (fun z => ha (hkey.mp (tx_inj.mp z))) ?_
      rw [show NC.jw 0 = W "or" from rfl, if_neg ha] at g
      exact ⟨_, rfl, g H' v frr hcr hpv⟩
def sp_open (l : Nat) : Sp := fun vs H Q E => ∃ c wl e ws b ms, vs = [.ref c, .ref b, .int ((8 - l : Nat) : Int)] ∧ CurW H c wl e ws ∧ H b = some (.lst (ms.map tx)) ∧ okNames ms ∧ ms.length ≤ 6 ∧ ws.length ≤ 6000 ∧ (∀ m ∈ ms, Vbenae.isMarkName m = true) ∧
  (VbenCore.ahead (W "not") ws = true ∨ VbenCore.ahead [40] ws = true) ∧ Gives H c wl e ms Q E (NC.P (fileOf ms) e 2 l none ws)
theorem sc_read_opening : FnScope ["cursor", "marks", "opened", "word", "part"] ["cursor", "marks", "opened"] (defScope s_read_opening) := C8.fnScope_by (by decide +kernel)
theorem opening_of (T : Tx K mg) (l k : Nat) (hl : l ≤ 8) (hk : 5 ≤ k) (s1 sE : Sp) (c1 : Cal P w K mg base (L2.CX P w) k "read_one" a_read_one s1) (cE : Cal P w K mg base (L2.CX P w) k "read_either" a_read_either sE)
    (h1 : ∀ vs H Q E, 0 < l → sp_part 2 (l - 1) vs H Q E → s1 vs H Q E) (hE : ∀ vs H Q E, 0 < l → sp_part 0 (l - 1) vs H Q E → sE vs H Q E) : Cal P w K mg base (L2.CX P w) (k + 1) "read_opening" a_read_opening (sp_open l) := by
  obtain ⟨fd, F⟩ := T.d_read_opening
  refine ⟨⟨fd, ["cursor", "marks", "opened"], F.okX sc_read_opening (fun vs H Q E h => by obtain ⟨c, wl, e, ws, b, ms, rfl, _⟩ := h; rfl) (fun cdv A outer s H vs Q E hr h => ⟨_, pss_cons (ps_if (pt_cmpR op_eq (pv 2) (C8.pe_gc rfl T.k_MOST_OPENED) (nomark _)) (pss_one (ps_rzP T hr (by omega) rfl rfl (takes_of rfl rfl rfl rfl) (pe_o0 (c_Cursor_here T) hr (by omega) (pv 0)))) pss_nil)
    (pss_cons (ps_set (i := 3) sc_read_opening.nd rfl (Or.inl rfl) (pe_o0 (c_Cursor_word T) hr (by omega) (pv 0)))
    (pss_cons (ps_expr (pe_o0 (c_Cursor_advance T) hr (by omega) (pv 0)))
    (pss_cons (ps_if (pt_cmpR op_eq (pv 3) pe_str (nomark _)) (pss_one (ps_ret (pe_f (c_not_part T) hr (by omega) rfl (pa_cons (pe_fX c1 hr (by omega) (passes_call (takes_of rfl rfl rfl rfl) fun _ _ _ _ z => z) rfl (pa_cons (pv 0) (pa_cons (pv 1) (pa_cons (pe_op op_add (pv 2) pe_int) pa_nil)))) pa_nil)))) pss_nil)
    (pss_cons (ps_set (i := 4) sc_read_opening.nd rfl (Or.inl rfl) (pe_fX cE hr (by omega) (passes_call (takes_of rfl rfl rfl rfl) fun _ _ _ _ z => z) rfl (pa_cons (pv 0) (pa_cons (pv 1) (pa_cons (pe_op op_add (pv 2) pe_int) pa_nil)))))
    (pss_cons (ps_expr (pe_oX (c_Cursor_take T) hr (by omega) (passes_call (takes_of rfl rfl rfl rfl) fun _ _ _ _ z => z) (pv 0) (pa_cons pe_str pa_nil)))
    (pss_one (ps_ret (pv 4)))))))), ?_⟩), F.binds fun _ _ _ _ _ _ us hl => match us, hl with | [_, _, _], _ => rfl⟩, T.g_read_opening, F.kp⟩
  obtain ⟨c, wl, e, ws, b, ms, rfl, hc, hb, nm, wm, wl6, hmk, hah, q⟩ := h
  cases ws with
  | nil => rcases hah with h | h <;> cases h
  | cons w0 r0 =>
    rw [NC.P_two] at q
    dsimp only [NC.one] at q
    have hw : w0.2 = W "not" ∨ w0.2 = [40] := by
      rcases hah with h | h
      · left
        have : (w0.2 == W "not") = true := h
        simpa using this
      · right
        have : (w0.2 == [40]) = true := h
        simpa using this
    have na : ¬ w0.2 = W "all" := by rcases hw with h | h <;> (rw [h]; decide +kernel)
    have nn : ¬ w0.2 = W "none" := by rcases hw with h | h <;> (rw [h]; decide +kernel)
    rw [if_neg na, if_neg nn] at q
    refine ⟨_, rfl, rfl, _, rfl, ?_⟩
    by_cases h0 : l = 0
    · refine ifT (by rw [h0]; rfl) ?_
      refine ⟨_, rfl, rd_here hc (kRz_of (Rt.go ?_))⟩
      have : Rt H E w0.1 := by
        rcases hw with h | h
        · rw [if_pos h, if_pos h0] at q
          exact q
        · have n2 : ¬ w0.2 = W "not" := by rw [h]; decide +kernel
          rw [if_neg n2, if_pos (show w0.2 = Vbenae.OPEN_ from h), if_pos h0] at q
          exact q
      exact this
    · refine ifF (fun z => h0 (by have := V.int.inj z; omega)) ?_
      have el : ((8 - l : Nat) : Int) + 1 = ((8 - (l - 1) : Nat) : Int) := by omega
      refine ⟨_, rfl, rd_word hc ?_⟩
      refine ⟨_, rfl, rd_adv hc fun H1 f1 hc1 => ?_⟩
      refine ⟨_, rfl, rfl, _, rfl, ?_⟩
      have kn := hd_key key_not.1 key_not.2 e (w0 :: r0)
      by_cases hn : w0.2 = W "not"
      · refine ifT (tx_inj.mpr (kn.mpr (by show (w0.2 == W "not") = true; rw [hn]; exact beq_self_eq_true _))) ?_
        rw [if_pos hn, if_neg h0] at q
        refine ⟨_, rfl, _, rfl, _, rfl, _, _, rfl, rfl, ?_⟩
        refine h1 _ _ _ _ (by omega) ⟨c, wl, e, r0, b, ms, by rw [← el]; rfl, hc1, frs_l (K := K) f1 hb, nm, wm, by simp at wl6; omega, hmk, ?_⟩
        cases h3 : NC.P (fileOf ms) e 2 (l - 1) none r0 with
        | error p =>
          rw [h3] at q
          exact Rt.fr q f1
        | ok r3 =>
          obtain ⟨a3, w3⟩ := r3
          rw [h3] at q
          have s3 := P_size (by decide) (fun _ => rfl) h3
          simp only [hadSz, List.length_cons] at s3 wl6
          intro H3 v3 f3 hc3 hp3
          exact ⟨v3, ms, a3, rfl, hp3, wm, aT_short hmk (n := 6000) (by omega) (by omega), fun H4 v4 e4 hp4 => q H4 v4 (frt (frt f1 f3) (frx e4)) (hc3.ex e4) hp4⟩
      · have ho : w0.2 = [40] := hw.resolve_left hn
        refine ifF (fun z => hn (by have := kn.mp (tx_inj.mp z); have : (w0.2 == W "not") = true := this; simpa using this)) ?_
        rw [if_neg hn, if_pos (show w0.2 = Vbenae.OPEN_ from ho), if_neg h0] at q
        refine ⟨_, rfl, _, rfl, _, rfl, _, _, rfl, rfl, ?_⟩
        refine hE _ _ _ _ (by omega) ⟨c, wl, e, r0, b, ms, by rw [← el]; rfl, hc1, frs_l (K := K) f1 hb, nm, wm, by simp at wl6; omega, hmk, ?_⟩
        cases h3 : NC.P (fileOf ms) e 0 (l - 1) none r0 with
        | error p =>
          rw [h3] at q
          exact Rt.fr q f1
        | ok r3 =>
          obtain ⟨a3, w3⟩ := r3
          rw [h3] at q
          dsimp only at q
          intro H3 v3 f3 hc3 hp3
          obtain ⟨m1, m2⟩ := must_hd (e := e) key_sh.1 key_sh.2 (ws := w3)
          refine ⟨_, rfl, rd_take (v := .str ")") (k := [41]) hc3 rfl key_sh.2 (fun d w r H4 hws f4 hc4 => ?_) (fun d => ?_)⟩
          · obtain ⟨w', r', hws', hm⟩ := m1 d
            rw [show VbenCore.must e Vbenae.SHUT w3 = .ok r' from hm] at q
            rw [hws] at hws'
            cases hws'
            exact ⟨_, rfl, q H4 v3 (frt (frt f1 f3) f4) hc4 (hp3.fr (by decide) f4)⟩
          · rw [show VbenCore.must e Vbenae.SHUT w3 = .error (VbenCore.placeOf e w3) from m2 d] at q
            exact Rt.fr q (frt f1 f3)
end
end N
namespace N
open PySem PySem.Spec PyProof.Rows L2 NX
open Vbenae (File Line Ask W)
open VbenCore (Word)
theorem orS {σ : L2.St} {H : Hp} {i : Nat} {x m n : Str} {Q : Bool → Hp → Prop} (h : σ[i]? = some (some (.str x))) (h1 : x = m ∨ x = n → Q true H) (h2 : ¬ (x = m ∨ x = n) → Q false H) :
    tOr (tTest (tOp rEq (tVar i) (tC (.str m)))) (tTest (tOp rEq (tVar i) (tC (.str n)))) σ H Q := by
  refine ⟨_, h, rfl, _, rfl, ?_⟩
  refine ite2 (fun c => h1 (.inl (V.str.inj (of_decide_eq_true c)))) (fun c => ?_)
  refine ⟨_, h, rfl, _, rfl, ?_⟩
  have c1 : ¬ x = m := fun z => c (decide_eq_true (by rw [z]))
  by_cases d : x = n
  · rw [decide_eq_true (by rw [d])]
    exact h1 (.inr d)
  · rw [decide_eq_false (fun z => d (V.str.inj z))]
    exact h2 fun z => z.elim c1 d
theorem ahead_w {w : Word} {r : List Word} {k : List Nat} : VbenCore.ahead k (w :: r) = true ↔ w.2 = k := by
  show (w.2 == k) = true ↔ _
  exact beq_iff_eq
theorem markOf_mem {f : File} {w : List Nat} (h : w ∈ f.marks) : ∃ m, Vbenae.markOf f w = some m := by
  cases hm : Vbenae.markOf f w with
  | none => exact absurd h (markOf_none hm)
  | some m => exact ⟨m, rfl⟩
section
variable {P : Program} {w : World} {K : PySem.W.Frag} {mg : Str → Option Value} {base : Heap}
theorem sc_read_one : FnScope ["cursor", "marks", "opened", "word", "part"] ["cursor", "marks", "opened"] (defScope s_read_one) := C8.fnScope_by (by decide +kernel)
theorem one_of' (T : Tx K mg) (l k : Nat) (hk : 4 ≤ k) (cO : Cal P w K mg base (L2.CX P w) k "read_opening" a_read_opening (sp_open l)) : Cal P w K mg base (L2.CX P w) (k + 1) "read_one" a_read_one (sp_part 2 l) := by
  obtain ⟨fd, F⟩ := T.d_read_one
  refine ⟨⟨fd, ["cursor", "marks", "opened"], F.okX sc_read_one (fun vs H Q E h => by obtain ⟨c, wl, e, ws, b, ms, rfl, _⟩ := h; rfl) (fun cdv A outer s H vs Q E hr h => ⟨_, pss_cons (ps_set (i := 3) sc_read_one.nd rfl (Or.inl rfl) (pe_o0 (c_Cursor_word T) hr (by omega) (pv 0)))
    (pss_cons (ps_if (PW.pt (pw_or (pt_cmpR op_eq (pv 3) pe_str (nomark _)) (pw_or1 (pt_cmpR op_eq (pv 3) pe_str (nomark _))))) (pss_one (ps_ret (pe_fX cO hr (by omega) (passes_call (takes_of rfl rfl rfl rfl) fun _ _ _ _ z => z) rfl (pa_cons (pv 0) (pa_cons (pv 1) (pa_cons (pv 2) pa_nil)))))) pss_nil)
    (pss_cons (ps_if (pt_cmpR op_eq (pv 3) pe_str (nomark _)) (pss_one (ps_set (i := 4) sc_read_one.nd rfl (Or.inl rfl) (pe_f (c_all_part T) hr (by omega) rfl (pa_cons (pv 1) pa_nil)))) (pss_one (ps_if (pt_cmpR op_eq (pv 3) pe_str (nomark _)) (pss_one (ps_set (i := 4) sc_read_one.nd rfl (Or.inl rfl) (pe_f (c_none_part T) hr (by omega) rfl (pa_cons (pv 1) pa_nil)))) (pss_one (ps_if (pt_cmpR op_in_seq (pv 3) (pv 1) (by rfl)) (pss_one (ps_set (i := 4) sc_read_one.nd rfl (Or.inl rfl) (pe_f (c_mark_part T) hr (by omega) rfl (pa_cons (pv 1) (pa_cons (pv 3) pa_nil))))) (pss_one (ps_rzP T hr (by omega) rfl rfl (takes_of rfl rfl rfl rfl) (pe_o0 (c_Cursor_here T) hr (by omega) (pv 0)))))))))
    (pss_cons (ps_expr (pe_o0 (c_Cursor_advance T) hr (by omega) (pv 0)))
    (pss_one (ps_ret (pv 4)))))), ?_⟩), F.binds fun _ _ _ _ _ _ us hl => match us, hl with | [_, _, _], _ => rfl⟩, T.g_read_one, F.kp⟩
  obtain ⟨c, wl, e, ws, b, ms, rfl, hc, hb, nm, wm, wl6, hmk, q⟩ := h
  have kn := hd_key key_not.1 key_not.2 e ws
  have ko := hd_key key_op.1 key_op.2 e ws
  have ka := hd_key key_all.1 key_all.2 e ws
  have kz := hd_key key_none.1 key_none.2 e ws
  refine ⟨_, rfl, rd_word hc ?_⟩
  refine orS (x := SX.S (hdP e ws).1) rfl (fun d => iteT ?_) (fun d => iteF ?_)
  · refine ⟨_, rfl, _, rfl, _, rfl, c, wl, e, ws, b, ms, rfl, hc, hb, nm, wm, wl6, hmk, ?_, q⟩
    rcases d with d | d
    · exact .inl (kn.mp (SX.S_inj d))
    · exact .inr (ko.mp (SX.S_inj (d.trans lit_op)))
  · have dn : ¬ VbenCore.ahead (W "not") ws = true := fun z => d (.inl (congrArg SX.S (kn.mpr z)))
    have dp : ¬ VbenCore.ahead [40] ws = true := fun z => d (.inr ((congrArg SX.S (ko.mpr z)).trans lit_op.symm))
    rw [NC.P_two] at q
    -- what stands behind the choice: the cursor goes on
    have go : ∀ (a : Ask) (w0 : Word) (r0 : List Word) (H1 : Hp) (v1 : V), ws = w0 :: r0 → NC.one (fileOf ms) e l (NC.P (fileOf ms) e 2 (l - 1) none) (NC.P (fileOf ms) e 0 (l - 1) none) ws = .ok (a, r0) → Ex H H1 → PartAt H1 ms a v1 →
        tSeq (tDrop (tMeth a_Cursor "advance" sp_advance [] E0 (tVar 0) tNil)) (tRet (tVar 4)) { nx := fun _ H' => Q .non H', rt := Q } [some (.ref c), some (.ref b), some (.int ((8 - l : Nat) : Int)), some (tx (hdP e ws).1), some v1] H1 := fun a w0 r0 H1 v1 hws ho e1 hp1 => by
      rw [ho] at q
      have hc1 := hc.ex e1
      rw [hws] at hc1
      refine ⟨_, rfl, rd_adv hc1 fun H2 f2 hc2 => ⟨_, rfl, ?_⟩⟩
      exact q H2 v1 (frt (frx e1) f2) hc2 (hp1.fr (by decide) f2)
    cases ws with
    | nil =>
      refine ⟨_, rfl, rfl, _, rfl, ?_⟩
      refine ifF (fun z => absurd (ka.mp (tx_inj.mp z)) (by decide)) ?_
      refine ⟨_, rfl, rfl, _, rfl, ?_⟩
      refine ifF (fun z => absurd (kz.mp (tx_inj.mp z)) (by decide)) ?_
      refine ⟨_, rfl, _, rfl, b, _, rfl, .inl (SqL.of hb), rfl, flat_tx ms, _, rfl, ?_⟩
      show if inV (tx (hdP e []).1) (ms.map tx) = true then _ else _
      rw [inV_tx]
      refine ifF (fun z => absurd (nm _ z) (by show ¬ VbenCore.isName [46] = true; decide)) ?_
      exact ⟨_, rfl, rd_here hc (kRz_of (Rt.go q))⟩
    | cons w0 r0 =>
      have nn : ¬ w0.2 = W "not" := fun z => dn (ahead_w.mpr z)
      have no : ¬ w0.2 = Vbenae.OPEN_ := fun z => dp (ahead_w.mpr z)
      refine ⟨_, rfl, rfl, _, rfl, ?_⟩
      by_cases h1 : w0.2 = W "all"
      · refine ifT (tx_inj.mpr (ka.mpr (ahead_w.mpr h1))) ?_
        refine ⟨_, rfl, b, ms, rfl, hb, wm, fun H1 v1 e1 hp1 => ?_⟩
        refine go .all w0 r0 H1 v1 rfl ?_ e1 hp1
        dsimp only [NC.one]
        rw [if_pos h1]
      refine ifF (fun z => h1 (ahead_w.mp (ka.mp (tx_inj.mp z)))) ?_
      refine ⟨_, rfl, rfl, _, rfl, ?_⟩
      by_cases h2 : w0.2 = W "none"
      · refine ifT (tx_inj.mpr (kz.mpr (ahead_w.mpr h2))) ?_
        refine ⟨_, rfl, b, ms, rfl, hb, wm, fun H1 v1 e1 hp1 => ?_⟩
        refine go .none_ w0 r0 H1 v1 rfl ?_ e1 hp1
        dsimp only [NC.one]
        rw [if_neg h1, if_pos h2]
      refine ifF (fun z => h2 (ahead_w.mp (kz.mp (tx_inj.mp z)))) ?_
      refine ⟨_, rfl, _, rfl, b, _, rfl, .inl (SqL.of hb), rfl, flat_tx ms, _, rfl, ?_⟩
      show if inV (tx (hdP e (w0 :: r0)).1) (ms.map tx) = true then _ else _
      rw [inV_tx]
      by_cases h3 : w0.2 ∈ ms
      · have hen : (hdP e (w0 :: r0)).1 = w0.2 := enc_name (nm _ h3)
        refine ifT (by rw [hen]; exact h3) ?_
        obtain ⟨m, hm⟩ := markOf_mem (f := fileOf ms) h3
        obtain ⟨m1, m2⟩ := markOf_at hm
        refine ⟨_, rfl, _, rfl, b, ms, w0.2, m, by rw [hen]; rfl, hb, wm, m1, m2, fun H1 v1 e1 hp1 => ?_⟩
        refine go (.mark m) w0 r0 H1 v1 rfl ?_ e1 hp1
        dsimp only [NC.one]
        rw [if_neg h1, if_neg h2, if_neg nn, if_neg no, hm]
      · have hno : ¬ (hdP e (w0 :: r0)).1 ∈ ms := fun z => h3 (by
          have z2 : (encP w0).1 ∈ ms := z
          have := (enc_key (name_signs (nm _ z2)).1 w0).mp rfl
          rw [this]; exact z2)
        refine ifF hno ?_
        refine ⟨_, rfl, rd_here hc (kRz_of (Rt.go ?_))⟩
        have hm : Vbenae.markOf (fileOf ms) w0.2 = none := by
          cases hm : Vbenae.markOf (fileOf ms) w0.2 with
          | none => rfl
          | some m => exact absurd (List.mem_of_getElem? (markOf_at hm).1) h3
        dsimp only [NC.one] at q
        rw [if_neg h1, if_neg h2, if_neg nn, if_neg no, hm] at q
        exact q
/-- a def whose promise is never asked for -/
theorem vac {x : Str} {st : Stmt} {f : Addr} {fd : FuncData} {ps : List Str} (g : mg x = some (.ref f)) (F : Fun K x x st f fd) (b : Binds K fd ps []) : Cal P w K mg base (L2.CX P w) 0 x f (fun _ _ _ _ => False) :=
  ⟨⟨fd, ps, ⟨fun _ _ _ _ h => h.elim, fun _ _ _ _ _ _ _ _ _ _ _ _ _ h => h.elim⟩, b⟩, g, F.kp⟩
theorem Cal.up {CX : CXT} {k j : Nat} {x : Str} {f : Addr} {sp : Sp} (c : Cal P w K mg base CX k x f sp) (h : k ≤ j) : Cal P w K mg base CX j x f sp := by
  obtain ⟨⟨fd, ps, F, b⟩, g, kp⟩ := c
  exact ⟨⟨fd, ps, F.mono h, b⟩, g, kp⟩
theorem Cal.imp {CX : CXT} {k : Nat} {x : Str} {f : Addr} {sp sp' : Sp} (c : Cal P w K mg base CX k x f sp) (h : ∀ vs H Q E, sp' vs H Q E → sp vs H Q E) : Cal P w K mg base CX k x f sp' := by
  obtain ⟨⟨fd, ps, F, b⟩, g, kp⟩ := c
  exact ⟨⟨fd, ps, F.imp h, b⟩, g, kp⟩
theorem readers (T : Tx K mg) : ∀ l, l ≤ 8 → Cal P w K mg base (L2.CX P w) (7 + 4 * l) "read_one" a_read_one (sp_part 2 l) ∧ Cal P w K mg base (L2.CX P w) (9 + 4 * l) "read_either" a_read_either (sp_part 0 l) := by
  intro l
  induction l with
  | zero =>
    intro _
    obtain ⟨fd1, F1⟩ := T.d_read_one
    obtain ⟨fd2, F2⟩ := T.d_read_either
    have v1 : Cal P w K mg base (L2.CX P w) 0 "read_one" a_read_one (fun _ _ _ _ => False) := vac T.g_read_one F1 (F1.binds (ps := ["cursor", "marks", "opened"]) fun _ _ _ _ _ _ us hl => match us, hl with | [_, _, _], _ => rfl)
    have v2 : Cal P w K mg base (L2.CX P w) 0 "read_either" a_read_either (fun _ _ _ _ => False) := vac T.g_read_either F2 (F2.binds (ps := ["cursor", "marks", "opened"]) fun _ _ _ _ _ _ us hl => match us, hl with | [_, _, _], _ => rfl)
    have o := opening_of T 0 5 (by decide) (by decide) _ _ (v1.up (by decide)) (v2.up (by decide)) (fun _ _ _ _ z _ => by omega) (fun _ _ _ _ z _ => by omega)
    have c1 := one_of' T 0 6 (by decide) o
    have cB := both_of T 0 7 (by decide) c1
    exact ⟨c1, either_of T 0 8 (by decide) cB⟩
  | succ l ih =>
    intro hl
    obtain ⟨i1, iE⟩ := ih (by omega)
    have o := opening_of T (l + 1) (9 + 4 * l) hl (by omega) _ _ (i1.up (by omega)) iE (fun _ _ _ _ _ z => z) (fun _ _ _ _ _ z => z)
    have c1 := one_of' T (l + 1) (10 + 4 * l) (by omega) (o.up (by omega))
    have cB := both_of T (l + 1) (11 + 4 * l) (by omega) (c1.up (by omega))
    exact ⟨c1.up (by omega), (either_of T (l + 1) (12 + 4 * l) (by omega) (cB.up (by omega))).up (by omega)⟩
theorem c_read_either (T : Tx K mg) : Cal P w K mg base (L2.CX P w) 41 "read_either" a_read_either (sp_part 0 8) := (readers T 8 (by decide)).2
end
end N
namespace N
open PySem PySem.Spec PyProof.Rows L2 NX
open Vbenae (File Line Ask W Item)
open VbenCore (Word)
theorem part_marks (f : File) (e : Nat) : ∀ g what lev had ws, what ≤ 2 → (what = 2 → had = none) → Vbenae.part f e g what lev had ws = Vbenae.part (fileOf f.marks) e g what lev had ws := by
  intro g
  induction g with
  | zero => intros; rfl
  | succ g ih =>
    intro what lev had ws hw hh
    by_cases h2 : what = 2
    · subst h2
      cases hh rfl
      rw [NC.part_two, NC.part_two]
      have e2 : Vbenae.part f e g 2 (lev - 1) none = Vbenae.part (fileOf f.marks) e g 2 (lev - 1) none := funext fun ws => ih _ _ _ _ (by omega) (fun _ => rfl)
      have e0 : Vbenae.part f e g 0 (lev - 1) none = Vbenae.part (fileOf f.marks) e g 0 (lev - 1) none := funext fun ws => ih _ _ _ _ (by omega) (fun z => by cases z)
      rw [e2, e0]
      cases ws <;> rfl
    · have hw' : what < 2 := by omega
      cases had with
      | none =>
        rw [NC.part_none _ _ _ _ _ _ hw', NC.part_none _ _ _ _ _ _ hw', ih _ _ _ _ (by omega) (fun _ => rfl)]
        cases Vbenae.part (fileOf f.marks) e g (what + 1) lev none ws with
        | error p => rfl
        | ok r => exact ih _ _ _ _ (by omega) (fun z => absurd z h2)
      | some b =>
        rw [NC.part_some _ _ _ _ _ _ _ hw', NC.part_some _ _ _ _ _ _ _ hw', ih _ _ _ _ (by omega) (fun _ => rfl)]
        split
        · cases Vbenae.part (fileOf f.marks) e g (what + 1) lev none (ws.drop 1) with
          | error p => rfl
          | ok r => exact ih _ _ _ _ (by omega) (fun z => absurd z h2)
        · rfl
theorem ask_P (f : File) (e : Nat) (ws : List Word) : Vbenae.askIn f e ws = NC.P (fileOf f.marks) e 0 8 none ws := by
  rw [NC.P_ask]
  exact part_marks f e _ 0 _ none ws (by decide) (fun z => by cases z)
section
variable {P : Program} {w : World} {K : PySem.W.Frag} {mg : Str → Option Value} {base : Heap}
/-- a question read -/
def askM (f : File) (e : Nat) (ws : List Word) : Except Nat ((List Nat × Ask) × List Word) := match ws with
  | [] => .error e
  | x :: r => if VbenCore.isName x.2 = true ∧ x.2 ∉ f.asks.map (·.1) then (match NC.P (fileOf f.marks) e 0 8 none r with
      | .error p => .error p
      | .ok (a, w1) => .ok ((x.2, a), w1)) else .error x.1
def sp_read_question : Sp := fun vs H Q E => ∃ c wl e ws b f, vs = [.ref c, .ref b] ∧ CurW H c wl e ws ∧ FileAt H b f ∧ Wf f ∧ shortW ws ∧ ws.length ≤ 6000 ∧ match askM f e ws with
  | .error p => Rt H E p
  | .ok (x, w1) => ∀ H' v, Fr a_Cursor H H' → CurW H' c wl e w1 → QuesAt H' f.marks x v → Q v H'
theorem wf_names {f : File} (wf : Wf f) : okNames f.marks := fun m hm => mark_name (wf.names m hm)
theorem sc_read_question : FnScope ["cursor", "card_file", "name", "part", "question"] ["cursor", "card_file"] (defScope s_read_question) := C8.fnScope_by (by decide +kernel)
theorem c_read_question (T : Tx K mg) : Cal P w K mg base (L2.CX P w) 43 "read_question" a_read_question sp_read_question := by
  obtain ⟨fd, F⟩ := T.d_read_question
  refine ⟨⟨fd, ["cursor", "card_file"], F.okX sc_read_question (fun vs H Q E h => by obtain ⟨c, wl, e, ws, b, f, rfl, _⟩ := h; rfl) (fun cdv A outer s H vs Q E hr h => ⟨_, pss_cons (ps_set (i := 2) sc_read_question.nd rfl (Or.inl rfl) (pe_o0 (c_Cursor_word T) hr (by decide) (pv 0)))
    (pss_cons (ps_if (PW.pt (pw_or (pt_not (pt_val (pe_f (c_is_name T) hr (by decide) rfl (pa_cons (pv 2) pa_nil)))) (pw_or1 (pt_cmpR op_in_seq (pv 2) (by exact (pe_lc (own := [("question", 4)]) (g := gName 4) rfl sc_read_question.nd (pi_list (pe_fld (pv 1) rfl)) (blkOk_by (own := [("question", 4)]) (N := ["cursor", "card_file", "name", "part", "question"]) (sc := defScope s_read_question) (by decide +kernel)) (fun _ _ _ _ _ => by exact (pg_name (i := 4) sc_read_question.nd rfl (Or.inl rfl))) (fun _ _ _ _ _ => by exact pts_nil) (fun _ _ _ _ _ => by exact (pe_fldK (K := K) rfl (pv 4) rfl)))) (by rfl))))) (pss_one (ps_rzP T hr (by decide) rfl rfl (takes_of rfl rfl rfl rfl) (pe_o0 (c_Cursor_here T) hr (by decide) (pv 0)))) pss_nil)
    (pss_cons (ps_expr (pe_o0 (c_Cursor_advance T) hr (by decide) (pv 0)))
    (pss_cons (ps_set (i := 3) sc_read_question.nd rfl (Or.inl rfl) (pe_fX (c_read_either T) hr (by decide) (passes_call (takes_of rfl rfl rfl rfl) fun _ _ _ _ z => z) rfl (pa_cons (pv 0) (pa_cons (pe_fld (pv 1) rfl) (pa_cons pe_int pa_nil)))))
    (pss_one (ps_ret (pe_k (c_Question_init T) hr (by decide) rfl (pa_cons (pv 2) (pa_cons (pe_fld (pv 3) rfl) (pa_cons (pe_fld (pv 3) rfl) pa_nil))))))))), ?_⟩), F.binds fun _ _ _ _ _ _ us hl => match us, hl with | [_, _], _ => rfl⟩, T.g_read_question, F.kp⟩
  obtain ⟨c, wl, e, ws, b, f, rfl, hc, hf, wf, sh, wl6, q⟩ := h
  obtain ⟨dx, m, l, qq, ys, zs, h1, h2, h3, h4, h5, h6⟩ := id hf
  have hsl := hd_len (e := e) sh
  have hlq := h6.len
  have wq := wf.asks
  refine ⟨_, rfl, rd_word hc ?_⟩
  refine ⟨_, rfl, (hdP e ws).1, rfl, Nat.le_trans hsl (by decide), _, rfl, ?_⟩
  refine ifNB (b := nameB (hdP e ws).1) (fun h0 => iteT ?_) (fun h0 => ?_)
  · refine ⟨_, rfl, rd_here hc (kRz_of (Rt.go ?_))⟩
    rw [name_hd] at h0
    cases ws with
    | nil => exact q
    | cons x r =>
      have hx : VbenCore.isName x.2 = false := h0
      have : askM f e (x :: r) = .error x.1 := by
        dsimp only [askM]
        rw [if_neg (by rw [hx]; simp)]
      rw [this] at q
      exact q
  · rw [name_hd] at h0
    cases ws with
    | nil => cases h0
    | cons x r =>
      have hx : VbenCore.isName x.2 = true := h0
      have hen : (hdP e (x :: r)).1 = x.2 := enc_name hx
      refine ⟨_, rfl, _, rfl, b, _, dx, _, _, rfl, h1, T.cl_CardFile, T.na_CardFile_questions, rfl, qq, rfl, ⟨_, SqL.of h5⟩, fun D hD => ?_⟩
      refine lc_map (walk_list (K := K) (a := qq) (xs := zs)) (fun i => f.asks[i]?.elim .non fun y => tx y.1) (by omega) hD (fun H2 e2 => SqL.of (e2 _ _ h5)) (fun i u H2 H' C hi e2 y hC => ?_) (fun H2 e2 h2' => ?_)
      · obtain ⟨rfl, hu⟩ := y
        obtain ⟨z, hz, qa, qd, qt, rfl, g1, g2⟩ := h6.get' hu
        refine ⟨rfl, _, rfl, qa, _, qd, _, _, rfl, e2 _ _ g1, T.cl_Question, T.na_Question_name, rfl, ?_⟩
        have := hC _ exr
        rw [hz] at this
        exact this
      · rw [← hlq, range_map] at h2'
        have h2'' : H2 D = some (.lst ((f.asks.map (·.1)).map tx)) := by rw [h2', List.map_map] <;> rfl
        refine ⟨D, _, rfl, .inl (SqL.of h2''), rfl, flat_tx _, _, rfl, ?_⟩
        show if inV (tx (hdP e (x :: r)).1) ((f.asks.map (·.1)).map tx) = true then _ else _
        rw [inV_tx, hen]
        have hc2 := hc.ex e2
        by_cases hin : x.2 ∈ f.asks.map (·.1)
        · refine ifT hin ?_
          have : askM f e (x :: r) = .error x.1 := by
            dsimp only [askM]
            rw [if_neg (fun z => z.2 hin)]
          rw [this] at q
          exact ⟨_, rfl, rd_here hc2 (kRz_of (Rt.go (Rt.ex q e2)))⟩
        · refine ifF hin ?_
          have ha : askM f e (x :: r) = (match NC.P (fileOf f.marks) e 0 8 none r with
              | .error p => .error p
              | .ok (a, w1) => .ok ((x.2, a), w1)) := by
            dsimp only [askM]
            rw [if_pos ⟨hx, hin⟩]
          rw [ha] at q
          refine ⟨_, rfl, rd_adv hc2 fun H3 f3 hc3 => ?_⟩
          have fa := frt (frx e2) f3
          refine ⟨_, rfl, _, rfl, b, _, dx, _, _, rfl, fa _ _ (fun _ _ z => by cases z) h1, T.cl_CardFile, T.na_CardFile_marks, rfl, c, wl, e, r, m, f.marks, rfl, hc3, frs_l (K := K) fa h2, wf_names wf, wf.marks, by simp at wl6; omega, wf.names, ?_⟩
          cases hp : NC.P (fileOf f.marks) e 0 8 none r with
          | error p =>
            rw [hp] at q
            exact Rt.fr q fa
          | ok r3 =>
            obtain ⟨a3, w3⟩ := r3
            rw [hp] at q
            intro H4 v4 f4 hc4 hp4
            obtain ⟨pa, pd, pt, rfl, p1, p2⟩ := hp4
            refine ⟨_, rfl, _, rfl, pa, _, pd, _, _, rfl, p1, T.cl_Part, T.na_Part_spoken, rfl, _, rfl, pa, _, pd, _, _, rfl, p1, T.cl_Part, T.na_Part_truth, rfl, ?_⟩
            refine mk_keep rfl fun x2 dx2 hx2 hd2 => ?_
            have e5 := made_ex (C := a_Question) (fs := [("name", tx x.2), ("spoken", tx (aT f.marks a3)), ("truth", .ref pt)]) hx2 hd2
            exact q _ _ (frt (frt fa f4) (frx e5)) (hc4.ex e5) ⟨x2, dx2, pt, rfl, made_at, e5 _ _ p2⟩
end
end N
namespace N
open PySem PySem.Spec PyProof.Rows L2 NX
open Vbenae (File Line Ask W Item)
open VbenCore (Word)
/-! ### what is left is an end of what was there -/
theorem must_suf {e : Nat} {b : List Nat} {ws r : List Word} (h : VbenCore.must e b ws = .ok r) : r <:+ ws := by
  cases ws with
  | nil => cases h
  | cons w u =>
    rw [VbenCore.must] at h
    split at h
    · cases h; exact List.suffix_cons _ _
    · cases h
theorem one_suf {f : File} {e lev : Nat} {r2 r0 : List Word → NC.PR} (h2 : ∀ ws r, r2 ws = .ok r → r.2 <:+ ws) (h0 : ∀ ws r, r0 ws = .ok r → r.2 <:+ ws) : ∀ ws r, NC.one f e lev r2 r0 ws = .ok r → r.2 <:+ ws := by
  intro ws r h
  cases ws with
  | nil => cases h
  | cons w ws =>
    have up : ∀ {u : List Word}, u <:+ ws → u <:+ w :: ws := fun z => z.trans (List.suffix_cons _ _)
    dsimp only [NC.one] at h
    split at h
    · cases h; exact List.suffix_cons _ _
    split at h
    · cases h; exact List.suffix_cons _ _
    split at h
    · split at h
      · cases h
      · cases hr : r2 ws with
        | error p => rw [hr] at h; cases h
        | ok q =>
          rw [hr] at h
          cases h
          exact up (h2 ws q hr)
    split at h
    · split at h
      · cases h
      · cases hr : r0 ws with
        | error p => rw [hr] at h; cases h
        | ok q =>
          rw [hr] at h
          dsimp only at h
          cases hm : VbenCore.must e Vbenae.SHUT q.2 with
          | error p => rw [hm] at h; cases h
          | ok w2 =>
            rw [hm] at h
            cases h
            exact up ((must_suf hm).trans (h0 ws q hr))
    · split at h
      · cases h
      · cases h; exact List.suffix_cons _ _
theorem part_suf (f : File) (e : Nat) : ∀ g what lev had ws r, what ≤ 2 → (what = 2 → had = none) → Vbenae.part f e g what lev had ws = .ok r → r.2 <:+ ws := by
  intro g
  induction g with
  | zero =>
    intro what lev had ws r _ _ h
    cases h
  | succ g ih =>
    intro what lev had ws r hw hh h
    by_cases h2 : what = 2
    · subst h2
      cases hh rfl
      rw [NC.part_two] at h
      exact one_suf (fun ws r z => ih 2 _ none ws r (by omega) (fun _ => rfl) z) (fun ws r z => ih 0 _ none ws r (by omega) (fun z => by cases z) z) ws r h
    · have hw' : what < 2 := by omega
      cases had with
      | none =>
        rw [NC.part_none _ _ _ _ _ _ hw'] at h
        cases hr : Vbenae.part f e g (what + 1) lev none ws with
        | error p => rw [hr] at h; cases h
        | ok q =>
          rw [hr] at h
          exact (ih _ _ _ _ _ (by omega) (fun z => absurd z h2) h).trans (ih _ _ _ _ q (by omega) (fun _ => rfl) hr)
      | some b =>
        rw [NC.part_some _ _ _ _ _ _ _ hw'] at h
        split at h
        · cases hr : Vbenae.part f e g (what + 1) lev none (ws.drop 1) with
          | error p => rw [hr] at h; cases h
          | ok q =>
            rw [hr] at h
            exact ((ih _ _ _ _ _ (by omega) (fun z => absurd z h2) h).trans (ih _ _ _ _ q (by omega) (fun _ => rfl) hr)).trans (List.drop_suffix _ _)
        · cases h
          exact List.suffix_refl _
theorem P_suf {f : File} {e what lev : Nat} {had : Option Ask} {ws : List Word} {r : Ask × List Word} (hw : what ≤ 2) (hh : what = 2 → had = none) (h : NC.P f e what lev had ws = .ok r) : r.2 <:+ ws := part_suf f e _ _ _ _ _ r hw hh h
theorem takeN_suf : ∀ (ms : List (List Nat)) (i n : Nat) (ws : List Word), (takeN ms i n ws).2 <:+ ws
  | [], _, _, ws => List.suffix_refl _
  | m :: ms, i, n, ws => by
    rw [takeN]
    split
    · exact (takeN_suf ms _ _ _).trans (List.drop_suffix _ _)
    · exact takeN_suf ms _ _ _
theorem takeN_lt : ∀ (ms : List (List Nat)) (i n : Nat) (ws : List Word), n < 2 ^ i → (takeN ms i n ws).1 < 2 ^ (i + ms.length)
  | [], i, n, ws, h => h
  | m :: ms, i, n, ws, h => by
    rw [takeN, List.length_cons, show i + (ms.length + 1) = i + 1 + ms.length by omega]
    split
    · exact takeN_lt ms (i + 1) _ _ (by rw [Nat.pow_succ]; omega)
    · exact takeN_lt ms (i + 1) _ _ (by rw [Nat.pow_succ]; omega)
theorem takeMarks_suf : ∀ (g : Nat) (l : List (List Nat)) (ws : List Word), (takeMarks g l ws).2 <:+ ws
  | 0, l, ws => List.suffix_refl _
  | _ + 1, l, [] => List.suffix_refl _
  | g + 1, l, w :: r => by
    rw [takeMarks]
    split
    · exact (takeMarks_suf g _ r).trans (List.suffix_cons _ _)
    · exact List.suffix_refl _
theorem numIn_suf {e : Nat} {ws : List Word} {n : Nat} {r : List Word} (h : Vbenae.numIn e 0 Vbenae.MANY ws = .ok (n, r)) : r <:+ ws ∧ n ≤ 1000000 := by
  cases ws with
  | nil => cases h
  | cons w u =>
    rw [numIn_ok] at h
    split at h
    · rename_i hc
      cases h
      refine ⟨List.suffix_cons _ _, ?_⟩
      unfold countOk at hc
      simp only [Bool.and_eq_true, decide_eq_true_eq] at hc
      exact hc.2.2.2
    · cases h
theorem shortW.suf {ws r : List Word} (h : shortW ws) (s : r <:+ ws) : shortW r := fun x hx => h x (s.subset hx)
/-! ### a line -/
def itemM (f : File) (e : Nat) (ws : List Word) : Except Nat (Item × List Word) := match ws with
  | [] => .error e
  | w :: r => if w.2 = W "cards" ∧ f.cards.length < 30 then (match Vbenae.numIn e 0 Vbenae.MANY r with
      | .error p => .error p
      | .ok (k, w1) => .ok (.cards ⟨k, (takeN f.marks 0 0 w1).1⟩, (takeN f.marks 0 0 w1).2))
    else if w.2 = W "ask" ∧ f.asks.length < 6 then (match askM f e r with
      | .error p => .error p
      | .ok (x, w1) => .ok (.ask x.1 x.2, w1)) else .error w.1
theorem askM_suf {f : File} {e : Nat} {ws : List Word} {x : List Nat × Ask} {w1 : List Word} (h : askM f e ws = .ok (x, w1)) : w1 <:+ ws ∧ VbenCore.isName x.1 = true ∧ asz x.2 ≤ ws.length := by
  cases ws with
  | nil => cases h
  | cons w r =>
    dsimp only [askM] at h
    split at h
    · rename_i hc
      cases hp : NC.P (fileOf f.marks) e 0 8 none r with
      | error p => rw [hp] at h; cases h
      | ok q =>
        obtain ⟨a, w2⟩ := q
        rw [hp] at h
        cases h
        have s := P_size (by decide) (fun z => by cases z) hp
        simp only [hadSz] at s
        exact ⟨(P_suf (by decide) (fun z => by cases z) hp).trans (List.suffix_cons _ _), hc.1, by simp; omega⟩
    · cases h
theorem itemM_wf {f : File} {e : Nat} {ws : List Word} {x : Item} {w1 : List Word} (wf : Wf f) (hl : ws.length ≤ 4500) (h : itemM f e ws = .ok (x, w1)) : w1 <:+ ws ∧ w1.length < ws.length ∧ Wf (Vbenae.putItem f x) := by
  cases ws with
  | nil => cases h
  | cons w r =>
    have lt : ∀ {u : List Word}, u <:+ r → u <:+ w :: r ∧ u.length < (w :: r).length := fun z => ⟨z.trans (List.suffix_cons _ _), by have := z.length_le; simp; omega⟩
    dsimp only [itemM] at h
    split at h
    · rename_i hc
      cases hn : Vbenae.numIn e 0 Vbenae.MANY r with
      | error p => rw [hn] at h; cases h
      | ok q =>
        obtain ⟨k, w2⟩ := q
        rw [hn] at h
        cases h
        obtain ⟨s1, s2⟩ := numIn_suf hn
        have s3 := lt ((takeN_suf f.marks 0 0 w2).trans s1)
        refine ⟨s3.1, s3.2, ⟨wf.marks, wf.nodup, wf.names, ?_, ?_, wf.asks, wf.ask⟩⟩
        · show (f.cards ++ [_]).length ≤ 30
          rw [List.length_append]
          have := hc.2
          simp; omega
        · intro y hy
          rcases List.mem_append.mp (show y ∈ f.cards ++ [_] from hy) with hy | hy
          · exact wf.line y hy
          · have : y = ⟨k, (takeN f.marks 0 0 w2).1⟩ := by simpa using hy
            subst this
            refine ⟨s2, ?_⟩
            have := takeN_lt f.marks 0 0 w2 (by decide)
            show (takeN f.marks 0 0 w2).1 < 2 ^ f.marks.length
            rw [Nat.zero_add] at this
            exact this
    · split at h
      · rename_i hc
        cases ha : askM f e r with
        | error p => rw [ha] at h; cases h
        | ok q =>
          obtain ⟨x2, w2⟩ := q
          rw [ha] at h
          cases h
          obtain ⟨s1, s2, s3⟩ := askM_suf ha
          have s4 := lt s1
          refine ⟨s4.1, s4.2, ⟨wf.marks, wf.nodup, wf.names, wf.cards, wf.line, ?_, ?_⟩⟩
          · show (f.asks ++ [_]).length ≤ 6
            rw [List.length_append]
            have := hc.2
            simp; omega
          · intro y hy
            rcases List.mem_append.mp (show y ∈ f.asks ++ [_] from hy) with hy | hy
            · exact wf.ask y hy
            · have : y = (x2.1, x2.2) := by simpa using hy
              subst this
              refine ⟨s2, ?_⟩
              have := aT_len (ms := f.marks) (fun m hx => (name_signs (mark_name (wf.names m hx))).2) x2.2
              simp at hl
              show (aT f.marks x2.2).length ≤ 60000
              omega
      · cases h
section
variable {P : Program} {w : World} {K : PySem.W.Frag} {mg : Str → Option Value} {base : Heap}
theorem key_cards : (W "cards").all isSign = true ∧ W "cards" ≠ [46] := by decide +kernel
theorem key_ask : (W "ask").all isSign = true ∧ W "ask" ≠ [46] := by decide +kernel
def sp_read_line : Sp := fun vs H Q E => ∃ c wl e ws b f, vs = [.ref c, .ref b] ∧ CurW H c wl e ws ∧ FileAt H b f ∧ Wf f ∧ shortW ws ∧ ws.length ≤ 4500 ∧ match itemM f e ws with
  | .error p => Rt H E p
  | .ok (x, w1) => ∀ H' b', Fr a_Cursor H H' → CurW H' c wl e w1 → FileAt H' b' (Vbenae.putItem f x) → Q (.ref b') H'
theorem sc_read_line : FnScope ["cursor", "card_file"] ["cursor", "card_file"] (defScope s_read_line) := C8.fnScope_by (by decide +kernel)
theorem c_read_line (T : Tx K mg) : Cal P w K mg base (L2.CX P w) 44 "read_line" a_read_line sp_read_line := by
  obtain ⟨fd, F⟩ := T.d_read_line
  refine ⟨⟨fd, ["cursor", "card_file"], F.okX sc_read_line (fun vs H Q E h => by obtain ⟨c, wl, e, ws, b, f, rfl, _⟩ := h; rfl) (fun cdv A outer s H vs Q E hr h => ⟨_, pss_cons (ps_if (PW.pt (pw_and (pt_cmpR op_eq (pe_o0 (c_Cursor_word T) hr (by decide) (pv 0)) pe_str (nomark _)) (pw_and1 (pt_cmpR op_lt (pe_callB call_len rfl T.f_len PySem.boot_len (pa_cons (pe_fld (pv 1) rfl) pa_nil)) (C8.pe_gc rfl T.k_MOST_LINES) (nomark _))))) (pss_cons (ps_expr (pe_o0 (c_Cursor_advance T) hr (by decide) (pv 0)))
    (pss_one (ps_ret (pe_f (c_with_line T) hr (by decide) rfl (pa_cons (pv 1) (pa_cons (pe_fX (c_read_cards T) hr (by decide) (passes_call (takes_of rfl rfl rfl rfl) fun _ _ _ _ z => z) rfl (pa_cons (pv 0) (pa_cons (pe_fld (pv 1) rfl) pa_nil))) pa_nil)))))) pss_nil)
    (pss_cons (ps_if (PW.pt (pw_and (pt_cmpR op_eq (pe_o0 (c_Cursor_word T) hr (by decide) (pv 0)) pe_str (nomark _)) (pw_and1 (pt_cmpR op_lt (pe_callB call_len rfl T.f_len PySem.boot_len (pa_cons (pe_fld (pv 1) rfl) pa_nil)) (C8.pe_gc rfl T.k_MOST_QUESTIONS) (nomark _))))) (pss_cons (ps_expr (pe_o0 (c_Cursor_advance T) hr (by decide) (pv 0)))
    (pss_one (ps_ret (pe_f (c_with_question T) hr (by decide) rfl (pa_cons (pv 1) (pa_cons (pe_fX (c_read_question T) hr (by decide) (passes_call (takes_of rfl rfl rfl rfl) fun _ _ _ _ z => z) rfl (pa_cons (pv 0) (pa_cons (pv 1) pa_nil))) pa_nil)))))) pss_nil)
    (pss_one (ps_rzP T hr (by decide) rfl rfl (takes_of rfl rfl rfl rfl) (pe_o0 (c_Cursor_here T) hr (by decide) (pv 0))))), ?_⟩), F.binds fun _ _ _ _ _ _ us hl => match us, hl with | [_, _], _ => rfl⟩, T.g_read_line, F.kp⟩
  obtain ⟨c, wl, e, ws, b, f, rfl, hc, hf, wf, sh, wl5, q⟩ := h
  obtain ⟨dx, m, l, qq, ys, zs, h1, h2, h3, h4, h5, h6⟩ := id hf
  have hly := h4.len
  have hlz := h6.len
  have kc := hd_key key_cards.1 key_cards.2 e ws
  have ka := hd_key key_ask.1 key_ask.2 e ws
  have fq : a_Question ≠ a_Cursor := by decide
  have fc : a_CardFile ≠ a_Cursor := by decide
  have here : (VbenCore.ahead (W "cards") ws = true → ¬ f.cards.length < 30) → (VbenCore.ahead (W "ask") ws = true → ¬ f.asks.length < 6) → Rt H E (VbenCore.placeOf e ws) := fun n1 n2 => by
    cases ws with
    | nil => exact q
    | cons w r =>
      have a1 : VbenCore.ahead (W "cards") (w :: r) = (w.2 == W "cards") := rfl
      have a2 : VbenCore.ahead (W "ask") (w :: r) = (w.2 == W "ask") := rfl
      rw [a1] at n1
      rw [a2] at n2
      dsimp only [itemM] at q
      rw [if_neg (fun z => n1 (by rw [z.1]; exact beq_self_eq_true _) z.2), if_neg (fun z => n2 (by rw [z.1]; exact beq_self_eq_true _) z.2)] at q
      exact q
  refine ⟨_, rfl, rd_word hc ⟨rfl, _, rfl, ?_⟩⟩
  by_cases ca : VbenCore.ahead (W "cards") ws = true
  · refine ifT (tx_inj.mpr (kc.mpr ca)) ?_
    refine ⟨_, rfl, b, _, dx, _, _, rfl, h1, T.cl_CardFile, T.na_CardFile_lines, rfl, _, _, rfl, .inl ⟨_, SqL.of h3, rfl⟩, _, _, rfl, rfl, _, rfl, ?_⟩
    by_cases c3 : f.cards.length < 30
    · refine ifT (by omega) ?_
      cases ws with
      | nil => cases ca
      | cons w r =>
        have hw : w.2 = W "cards" := by
          have : (w.2 == W "cards") = true := ca
          simpa using this
        dsimp only [itemM] at q
        rw [if_pos ⟨hw, c3⟩] at q
        refine ⟨_, rfl, rd_adv hc fun H1 f1 hc1 => ?_⟩
        refine ⟨_, rfl, _, rfl, _, rfl, b, _, dx, _, _, rfl, f1 _ _ (fun _ _ z => fc (HO.ins.inj z).1) h1, T.cl_CardFile, T.na_CardFile_marks, rfl, c, wl, e, r, m, f.marks, rfl, hc1, sh.tail, frs_l (K := K) f1 h2, wf_names wf, wf.marks, ?_⟩
        cases hn : Vbenae.numIn e 0 Vbenae.MANY r with
        | error p =>
          rw [hn] at q
          exact Rt.fr q f1
        | ok x =>
          obtain ⟨k, w1⟩ := x
          rw [hn] at q
          intro H2 v f2 hc2 hv
          refine ⟨b, f, _, v, rfl, hf.fr fq fc (frt f1 f2), wf.cards, hv, fun H3 b3 e3 _ hf3 => ?_⟩
          exact q H3 b3 (frt (frt f1 f2) (frx e3)) (hc2.ex e3) hf3
    · refine ifF (by omega) ?_
      have na : ¬ VbenCore.ahead (W "ask") ws = true := fun z => by
        cases ws with
        | nil => cases z
        | cons w r =>
          have z1 : (w.2 == W "ask") = true := z
          have z2 : (w.2 == W "cards") = true := ca
          have z3 : W "ask" = W "cards" := (eq_of_beq z1).symm.trans (eq_of_beq z2)
          exact absurd z3 (by decide +kernel)
      refine ⟨_, rfl, rd_word hc ⟨rfl, _, rfl, ?_⟩⟩
      refine ifF (fun z => na (ka.mp (tx_inj.mp z))) (iteF ?_)
      exact ⟨_, rfl, rd_here hc (kRz_of (Rt.go (here (fun _ => c3) (fun z => absurd z na))))⟩
  · refine ifF (fun z => ca (kc.mp (tx_inj.mp z))) (iteF ?_)
    refine ⟨_, rfl, rd_word hc ⟨rfl, _, rfl, ?_⟩⟩
    by_cases cb : VbenCore.ahead (W "ask") ws = true
    · refine ifT (tx_inj.mpr (ka.mpr cb)) ?_
      refine ⟨_, rfl, b, _, dx, _, _, rfl, h1, T.cl_CardFile, T.na_CardFile_questions, rfl, _, _, rfl, .inl ⟨_, SqL.of h5, rfl⟩, _, _, rfl, rfl, _, rfl, ?_⟩
      by_cases c3 : f.asks.length < 6
      · refine ifT (by omega) ?_
        cases ws with
        | nil => cases cb
        | cons w r =>
          have hw : w.2 = W "ask" := by
            have : (w.2 == W "ask") = true := cb
            simpa using this
          have hw2 : ¬ (w.2 = W "cards" ∧ f.cards.length < 30) := fun z => by
            rw [hw] at z
            exact absurd z.1 (by decide +kernel)
          dsimp only [itemM] at q
          rw [if_neg hw2, if_pos ⟨hw, c3⟩] at q
          refine ⟨_, rfl, rd_adv hc fun H1 f1 hc1 => ?_⟩
          refine ⟨_, rfl, _, rfl, _, rfl, c, wl, e, r, b, f, rfl, hc1, hf.fr fq fc f1, wf, sh.tail, by simp at wl5; omega, ?_⟩
          cases hn : askM f e r with
          | error p =>
            rw [hn] at q
            exact Rt.fr q f1
          | ok x =>
            obtain ⟨k, w1⟩ := x
            rw [hn] at q
            intro H2 v f2 hc2 hv
            refine ⟨b, f, k, v, rfl, hf.fr fq fc (frt f1 f2), by omega, hv, fun H3 b3 e3 _ hf3 => ?_⟩
            exact q H3 b3 (frt (frt f1 f2) (frx e3)) (hc2.ex e3) hf3
      · refine ifF (by omega) ?_
        exact ⟨_, rfl, rd_here hc (kRz_of (Rt.go (here (fun z => absurd z ca) (fun _ => c3))))⟩
    · refine ifF (fun z => cb (ka.mp (tx_inj.mp z))) (iteF ?_)
      exact ⟨_, rfl, rd_here hc (kRz_of (Rt.go (here (fun z => absurd z ca) (fun z => absurd z cb))))⟩
end
end N
namespace N
open PySem PySem.Spec PyProof.Rows L2 NX
open Vbenae (File Line Ask W Item)
open VbenCore (Word)
/-- C(..) of a class that keeps what it is handed -/
theorem mk_keepA {C : Addr} {fl : List Str} {ws : List V} {H : Hp} {Q : Addr → Hp → Prop} {E : XK} (hl : ws.length = fl.length) (q : ∀ x dx, H x = none → H dx = none → Q x (made H x dx C (fl.zip ws))) :
    ∀ x dx, H x = none → H dx = none → dx ≠ x → sp_keep C fl (.ref x :: (ws ++ [])) (upd (upd H dx (.own x)) x (.ins C dx [])) (fun v H2 => v = .non ∧ Q x H2) E := fun x dx hx hd _ => by
  rw [List.append_nil]
  refine ⟨x, dx, ws, rfl, hl, upd_same, rfl, ?_⟩
  rw [upd_upd]
  exact q x dx hx hd
/-! ### lines, against the specification -/
theorem bnd {ε α β : Type} (x : Except ε α) (k : α → Except ε β) : (x >>= k) = (match x with
    | .error p => .error p
    | .ok a => k a) := by cases x <;> rfl
def atEnd (ws : List Word) : Prop := ws.isEmpty = true ∨ VbenCore.ahead [10] ws = true
instance (ws : List Word) : Decidable (atEnd ws) := inferInstanceAs (Decidable (_ ∨ _))
def endOf (e : Nat) (x : Item) (ws : List Word) : Except Nat (Item × List Word) := match x with
  | .cards _ => if atEnd ws then .ok (x, ws) else .error (VbenCore.placeOf e ws)
  | .ask _ _ => .ok (x, ws)
theorem item_M {f : File} (wf : Wf f) (e : Nat) (ws : List Word) : Vbenae.itemIn f e ws = (match itemM f e ws with
    | .error p => .error p
    | .ok (x, w1) => endOf e x w1) := by
  cases ws with
  | nil => rfl
  | cons w r =>
    unfold Vbenae.itemIn
    dsimp only [itemM]
    by_cases hc : w.2 = W "cards"
    · rw [if_pos hc]
      by_cases hl : f.cards.length < 30
      · rw [if_neg (by show ¬ 30 ≤ _; omega), if_pos ⟨hc, hl⟩]
        cases hn : Vbenae.numIn e 0 Vbenae.MANY r with
        | error p => rfl
        | ok q =>
          obtain ⟨k, w1⟩ := q
          show (Vbenae.marksIn f e f.marks.length 0 0 w1 >>= fun q => (.ok (.cards ⟨k, q.1⟩, q.2) : Except Nat (Item × List Word))) = _
          rw [bnd, marks_take f e wf.nodup (wf_names wf) _ 0 0 w1 (by omega) (by omega), List.drop_zero]
          dsimp only
          show _ = (if atEnd _ then _ else _)
          by_cases ha : atEnd (takeN f.marks 0 0 w1).2
          · have ha' : (takeN f.marks 0 0 w1).2.isEmpty = true ∨ VbenCore.ahead [10] (takeN f.marks 0 0 w1).2 = true := ha
            rw [if_pos ha', if_pos ha] <;> rfl
          · have ha' : ¬ ((takeN f.marks 0 0 w1).2.isEmpty = true ∨ VbenCore.ahead [10] (takeN f.marks 0 0 w1).2 = true) := ha
            rw [if_neg ha', if_neg ha]
      · have hk : ¬ w.2 = W "ask" := by rw [hc]; decide +kernel
        rw [if_pos (by show 30 ≤ _; omega), if_neg (show ¬ (w.2 = W "cards" ∧ f.cards.length < 30) from fun z => hl z.2), if_neg (show ¬ (w.2 = W "ask" ∧ f.asks.length < 6) from fun z => hk z.1)]
    · rw [if_neg hc, if_neg (show ¬ (w.2 = W "cards" ∧ f.cards.length < 30) from fun z => hc z.1)]
      by_cases ha : w.2 = W "ask"
      · rw [if_pos ha]
        by_cases hl : f.asks.length < 6
        · rw [if_neg (by show ¬ 6 ≤ _; omega), if_pos ⟨ha, hl⟩]
          cases r with
          | nil => rfl
          | cons x r =>
            dsimp only [askM]
            by_cases hx : VbenCore.isName x.2 = true ∧ x.2 ∉ f.asks.map (·.1)
            · have hx' : VbenCore.isName x.2 = true ∧ ((f.asks.map fun y => y.1).contains x.2) = false := ⟨hx.1, by simpa using hx.2⟩
              rw [if_pos hx', if_pos hx, ask_P]
              cases NC.P (fileOf f.marks) e 0 8 none r with
              | error p => rfl
              | ok q => rfl
            · have hx' : ¬ (VbenCore.isName x.2 = true ∧ ((f.asks.map fun y => y.1).contains x.2) = false) := fun z => hx ⟨z.1, by simpa using z.2⟩
              rw [if_neg hx', if_neg hx]
        · rw [if_pos (by show 6 ≤ _; omega), if_neg (show ¬ (w.2 = W "ask" ∧ f.asks.length < 6) from fun z => hl z.2)]
      · rw [if_neg ha, if_neg (show ¬ (w.2 = W "ask" ∧ f.asks.length < 6) from fun z => ha z.1)]
def itemsM (e : Nat) : Nat → File → List Word → Except Nat File
  | 0, _, ws => .error (VbenCore.placeOf e ws)
  | g + 1, f, ws => if VbenCore.ahead [10] ws = true then (match itemM f e (ws.drop 1) with
      | .error p => .error p
      | .ok (x, w1) => itemsM e g (Vbenae.putItem f x) w1) else if ws = [] then .ok f else .error (VbenCore.placeOf e ws)
theorem itemsM_not {e g : Nat} {f : File} {ws : List Word} (h : ¬ atEnd ws) : itemsM e g f ws = .error (VbenCore.placeOf e ws) := by
  cases g with
  | zero => rfl
  | succ g =>
    rw [itemsM, if_neg (fun z => h (.inr z)), if_neg (fun z => h (.inl (by rw [z]; rfl)))]
theorem items_M (e : Nat) : ∀ (g : Nat) (f : File) (ws : List Word), Wf f → ws.length ≤ 4500 → Vbenae.itemsIn e g f ws = itemsM e g f ws := by
  intro g
  induction g with
  | zero => intro f ws _ _; rfl
  | succ g ih =>
    intro f ws wf hl
    cases ws with
    | nil => rfl
    | cons w r =>
      rw [Vbenae.itemsIn, itemsM]
      show (VbenCore.must e [10] (w :: r) >>= fun ws => Vbenae.itemIn f e ws >>= fun q => Vbenae.itemsIn e g (Vbenae.putItem f q.1) q.2) = _
      rw [bnd]
      by_cases ha : w.2 = [10]
      · rw [VbenCore.must, if_pos ha, if_pos (by show (w.2 == [10]) = true; rw [ha]; rfl)]
        show (Vbenae.itemIn f e r >>= fun q => Vbenae.itemsIn e g (Vbenae.putItem f q.1) q.2) = _
        rw [bnd, item_M wf, show List.drop 1 (w :: r) = r from rfl]
        cases hm : itemM f e r with
        | error p => rfl
        | ok q =>
          obtain ⟨x, w1⟩ := q
          simp at hl
          obtain ⟨s1, s2, wf2⟩ := itemM_wf wf (by omega) hm
          have fin : Vbenae.itemsIn e g (Vbenae.putItem f x) w1 = itemsM e g (Vbenae.putItem f x) w1 := ih _ _ wf2 (by omega)
          cases x with
          | ask n a => exact fin
          | cards l =>
            by_cases ht : atEnd w1
            · have h1 : endOf e (.cards l) w1 = .ok (.cards l, w1) := by
                show (if atEnd w1 then _ else _) = _
                rw [if_pos ht]
              dsimp only
              rw [h1]
              exact fin
            · have h1 : endOf e (.cards l) w1 = .error (VbenCore.placeOf e w1) := by
                show (if atEnd w1 then _ else _) = _
                rw [if_neg ht]
              dsimp only
              rw [h1, itemsM_not ht]
      · rw [VbenCore.must, if_neg ha, if_neg (by show ¬ (w.2 == [10]) = true; simpa using ha), if_neg (by simp)] <;> rfl
/-- the marks that are taken -/
theorem takeMarks_wf : ∀ (g : Nat) (l : List (List Nat)) (ws : List Word), l.Nodup → (∀ m ∈ l, Vbenae.isMarkName m = true) → ((takeMarks g l ws).1).Nodup ∧ (∀ m ∈ (takeMarks g l ws).1, Vbenae.isMarkName m = true) ∧ (takeMarks g l ws).1.length ≤ l.length + g
  | 0, l, ws, h1, h2 => ⟨h1, h2, Nat.le_refl _⟩
  | g + 1, l, [], h1, h2 => ⟨h1, h2, by show l.length ≤ _; omega⟩
  | g + 1, l, w :: r, h1, h2 => by
    rw [takeMarks]
    split
    · rename_i hc
      obtain ⟨a, b, c⟩ := takeMarks_wf g (l ++ [w.2]) r (by
        rw [List.nodup_append]
        refine ⟨h1, by simp, fun x hx y hy => ?_⟩
        have : y = w.2 := by simpa using hy
        rw [this]
        exact fun z => hc.2 (z ▸ hx)) (fun m hm => by
        rcases List.mem_append.mp hm with h | h
        · exact h2 m h
        · have : m = w.2 := by simpa using h
          rw [this]; exact hc.1)
      refine ⟨a, b, ?_⟩
      rw [List.length_append, List.length_singleton] at c
      omega
    · exact ⟨h1, h2, by show l.length ≤ _; omega⟩
def fileM (b : List Nat) : Except Nat File := match VbenCore.must b.length (W "marks") (VbenCore.cut 0 b) with
  | .error p => .error p
  | .ok w1 => itemsM b.length ((takeMarks 6 [] w1).2.length + 1) ⟨(takeMarks 6 [] w1).1, [], []⟩ (takeMarks 6 [] w1).2
theorem start_wf (g : Nat) (ws : List Word) (hg : g ≤ 6) : Wf ⟨(takeMarks g [] ws).1, [], []⟩ := by
  obtain ⟨a, b, c⟩ := takeMarks_wf g [] ws List.nodup_nil (fun m hm => by simp at hm)
  exact ⟨by show (takeMarks g [] ws).1.length ≤ 6; simp at c; omega, a, b, by show 0 ≤ 30; decide, fun x hx => by simp at hx, by show 0 ≤ 6; decide, fun x hx => by simp at hx⟩
theorem cut_len : ∀ (b : List Nat) (p : Nat), (VbenCore.cut p b).length ≤ 2 * b.length + 1 ∧ ∀ w ∈ VbenCore.cut p b, w.2.length ≤ b.length + 1
  | [], p => ⟨by show 1 ≤ 1; decide, fun w hw => by
      have : w = (p, []) := by simpa [VbenCore.cut] using hw
      rw [this]; simp⟩
  | c :: r, p => by
    obtain ⟨h1, h2⟩ := cut_len r (p + 1)
    have up : ∀ w ∈ VbenCore.cut (p + 1) r, w.2.length ≤ (c :: r).length + 1 := fun w hw => by
      have := h2 w hw
      simp; omega
    unfold VbenCore.cut
    split
    · refine ⟨by simp; omega, fun w hw => ?_⟩
      rcases List.mem_cons.mp hw with h | h
      · rw [h]; simp
      · exact up w h
    split
    · refine ⟨by simp; omega, fun w hw => ?_⟩
      rcases List.mem_cons.mp hw with h | h
      · rw [h]; simp
      rcases List.mem_cons.mp h with h | h
      · rw [h]; simp
      · exact up w h
    · split
      · refine ⟨by simp, fun w hw => ?_⟩
        have : w = (p, [c]) := by simpa using hw
        rw [this]; simp
      · rename_i q w0 l he
        rw [he] at h1 h2
        refine ⟨by simp at h1 ⊢; omega, fun w hw => ?_⟩
        rcases List.mem_cons.mp hw with h | h
        · rw [h]
          have := h2 _ List.mem_cons_self
          simp at this ⊢; omega
        · have := h2 w (List.mem_cons_of_mem _ h)
          simp; omega
theorem file_M {b : List Nat} (hb : b.length ≤ 2000) : Vbenae.readFile b = fileM b := by
  unfold Vbenae.readFile fileM
  show (VbenCore.must b.length (W "marks") (VbenCore.cut 0 b) >>= fun ws => Vbenae.namesIn b.length 6 [] ws >>= fun q => Vbenae.itemsIn b.length (q.2.length + 1) ⟨q.1, [], []⟩ q.2) = _
  rw [bnd]
  cases hm : VbenCore.must b.length (W "marks") (VbenCore.cut 0 b) with
  | error p => rfl
  | ok w1 =>
    have hl := (must_suf hm).length_le
    have hc := (cut_len b 0).1
    have ht := (takeMarks_suf 6 [] w1).length_le
    show (Vbenae.namesIn b.length 6 [] w1 >>= fun q => Vbenae.itemsIn b.length (q.2.length + 1) ⟨q.1, [], []⟩ q.2) = _
    rw [bnd, names_take]
    dsimp only
    by_cases he : atEnd (takeMarks 6 [] w1).2
    · have he' : (takeMarks 6 [] w1).2.isEmpty = true ∨ VbenCore.ahead [10] (takeMarks 6 [] w1).2 = true := he
      rw [if_pos he']
      exact items_M _ _ _ _ (start_wf 6 w1 (by decide)) (by omega)
    · have he' : ¬ ((takeMarks 6 [] w1).2.isEmpty = true ∨ VbenCore.ahead [10] (takeMarks 6 [] w1).2 = true) := he
      rw [if_neg he', itemsM_not he]
theorem item_put {f : File} (wf : Wf f) {b : List Nat} (hb : b.length ≤ 2000) : Vbenae.readItem f b = (match itemM f b.length (VbenCore.cut 0 b) with
    | .error p => .error p
    | .ok (x, w1) => if w1 = [] then .ok x else .error (VbenCore.placeOf b.length w1)) := by
  unfold Vbenae.readItem
  show (Vbenae.itemIn f b.length (VbenCore.cut 0 b) >>= fun q => match q.2 with | [] => (.ok q.1 : Except Nat Item) | w :: _ => .error w.1) = _
  rw [bnd, item_M wf]
  cases hm : itemM f b.length (VbenCore.cut 0 b) with
  | error p => rfl
  | ok q =>
    obtain ⟨x, w1⟩ := q
    have fin : (match w1 with | [] => (.ok x : Except Nat Item) | w :: _ => .error w.1) = if w1 = [] then .ok x else .error (VbenCore.placeOf b.length w1) := by
      cases w1 with
      | nil => rfl
      | cons w r => rw [if_neg (by simp)] <;> rfl
    cases x with
    | ask n a => exact fin
    | cards l =>
      by_cases ht : atEnd w1
      · have h1 : endOf b.length (.cards l) w1 = .ok (.cards l, w1) := by
          show (if atEnd w1 then _ else _) = _
          rw [if_pos ht]
        dsimp only
        rw [h1]
        exact fin
      · have h1 : endOf b.length (.cards l) w1 = .error (VbenCore.placeOf b.length w1) := by
          show (if atEnd w1 then _ else _) = _
          rw [if_neg ht]
        dsimp only
        rw [h1, if_neg (fun z => ht (.inl (by rw [z]; rfl)))]
section
variable {P : Program} {w : World} {K : PySem.W.Frag} {mg : Str → Option Value} {base : Heap}
def sp_read_file : Sp := fun vs H Q E => ∃ a b, vs = [.ref a] ∧ H a = some (.lst (nvs b)) ∧ b.length ≤ 2000 ∧ match Vbenae.readFile b with
  | .error p => Rt H E p
  | .ok g => ∀ H' p, Fr a_Cursor H H' → FileAt H' p g → Wf g → Q (.ref p) H'
theorem sc_read_file : FnScope ["text", "cursor", "card_file"] ["text"] (defScope s_read_file) := C8.fnScope_by (by decide +kernel)
theorem c_read_file (T : Tx K mg) : Cal P w K mg base (L2.CX P w) 45 "read_file" a_read_file sp_read_file := by
  obtain ⟨fd, F⟩ := T.d_read_file
  refine ⟨⟨fd, ["text"], F.okX sc_read_file (fun vs H Q E h => by obtain ⟨a, b, rfl, _⟩ := h; rfl) (fun cdv A outer s H vs Q E hr h => ⟨_, pss_cons (ps_set (i := 1) sc_read_file.nd rfl (Or.inl rfl) (pe_k (c_Cursor_init T) hr (by decide) rfl (pa_cons (pv 0) pa_nil)))
    (pss_cons (ps_set (i := 2) sc_read_file.nd rfl (Or.inl rfl) (pe_k (c_CardFile_init T) hr (by decide) rfl (pa_cons (pe_fX (c_read_marks T) hr (by decide) (passes_call (takes_of rfl rfl rfl rfl) fun _ _ _ _ z => z) rfl (pa_cons (pv 1) pa_nil)) (pa_cons (pe_lst pa_nil) (pa_cons (pe_lst pa_nil) pa_nil)))))
    (pss_cons (ps_while (passes_of rfl) (pt_cmpR op_eq (pe_o0 (c_Cursor_word T) hr (by decide) (pv 1)) (C8.pe_gc rfl T.k_LINE_END) (nomark _))
    (pss_cons (ps_expr (pe_o0 (c_Cursor_advance T) hr (by decide) (pv 1)))
    (pss_one (ps_set (i := 2) sc_read_file.nd rfl (Or.inl rfl) (pe_fX (c_read_line T) hr (by decide) (passes_call (takes_of rfl rfl rfl rfl) fun _ _ _ _ z => z) rfl (pa_cons (pv 1) (pa_cons (pv 2) pa_nil)))))))
    (pss_cons (ps_expr (pe_oX (c_Cursor_check T) hr (by decide) (passes_call (takes_of rfl rfl rfl rfl) fun _ _ _ _ z => z) (pv 1) (pa_cons (C8.pe_gc rfl T.k_TEXT_END) pa_nil)))
    (pss_one (ps_ret (pv 2)))))), ?_⟩), F.binds fun _ _ _ _ _ _ us hl => match us, hl with | [_], _ => rfl⟩, T.g_read_file, F.kp⟩
  obtain ⟨a, b, rfl, ha, hb, q⟩ := h
  rw [file_M hb] at q
  unfold fileM at q
  have hcl := (cut_len b 0).1
  have sh : shortW (VbenCore.cut 0 b) := fun w hw => by
    have := (cut_len b 0).2 w hw
    omega
  refine ⟨_, rfl, ?_⟩
  refine mk_cur ha (by omega) fun H1 c wl e1 hc => ?_
  refine ⟨_, rfl, c, wl, b.length, VbenCore.cut 0 b, rfl, hc, sh, ?_⟩
  cases hm : VbenCore.must b.length (W "marks") (VbenCore.cut 0 b) with
  | error p =>
    rw [hm] at q
    exact Rt.ex q e1
  | ok w1 =>
    rw [hm] at q
    dsimp only at q
    intro H2 mp f2 hc2 hmp hne
    have s1 := must_suf hm
    have s2 := takeMarks_suf 6 [] w1
    have l1 := s1.length_le
    have l2 := s2.length_le
    have wf0 := start_wf 6 w1 (by decide)
    generalize hT : takeMarks 6 [] w1 = tm at *
    obtain ⟨ml, rs0⟩ := tm
    dsimp only at *
    refine ⟨szl (Nat.zero_le _), fun p1 hp1 => ⟨szl (Nat.zero_le _), fun p2 hp2 => ?_⟩⟩
    have e3 := exn (o := .lst []) hp1
    have e4 := exn (o := .lst []) hp2
    refine mk_keepA (C := a_CardFile) (fl := ["marks", "lines", "questions"]) (ws := [.ref mp, .ref p1, .ref p2]) rfl fun x dx hx hd => ?_
    have e5 := made_ex (C := a_CardFile) (fs := cfs mp p1 p2) hx hd
    have e6 := ext (ext e3 e4) e5
    have f6 : Fr a_Cursor H _ := frt (frt (frx e1) f2) (frx e6)
    refine ⟨fun n σ H' => ∃ (g : Nat) (f : File) (rs : List Word) (bf : Addr), σ = [some (.ref a), some (.ref c), some (.ref bf)] ∧ n = rs.length ∧ rs.length < g ∧ rs.length ≤ 4500 ∧ shortW rs ∧ Fr a_Cursor H H' ∧ CurW H' c wl b.length rs ∧ FileAt H' bf f ∧ Wf f ∧
        itemsM b.length g f rs = itemsM b.length (rs0.length + 1) ⟨ml, [], []⟩ rs0,
      ⟨_, rs0.length + 1, ⟨ml, [], []⟩, rs0, x, rfl, rfl, by omega, by omega, sh.suf (s2.trans s1), f6, hc2.ex e6, ⟨dx, mp, p1, p2, [], [], made_at, e6 _ _ hmp, e5 _ _ (e4 _ _ upd_same), trivial, e5 _ _ upd_same, trivial⟩, wf0, rfl⟩, ?_⟩
    rintro n σ H' ⟨g, f, rs, bf, rfl, rfl, hg, hl, shr, fr, hcr, hff, wff, hit⟩
    have hfeed := hd_feed b.length rs
    rw [← hit] at q
    refine ⟨_, rfl, rd_word hcr ⟨rfl, _, rfl, ?_⟩⟩
    obtain ⟨g, rfl⟩ : ∃ g', g = g' + 1 := ⟨g - 1, by omega⟩
    rw [itemsM] at q hit
    by_cases ha10 : VbenCore.ahead [10] rs = true
    · refine ifT (tx_inj.mpr (hfeed.mpr ha10)) ⟨fun σ' H2 => _, fun _ _ z => z, ?_⟩
      rw [if_pos ha10] at q hit
      cases rs with
      | nil => cases ha10
      | cons w2 r2 =>
        refine ⟨_, rfl, rd_adv hcr fun H3 f3 hc3 => ?_⟩
        simp at hl hg
        refine ⟨_, rfl, _, rfl, c, wl, b.length, r2, bf, f, rfl, hc3, hff.fr (by decide) (by decide) f3, wff, shr.tail, by omega, ?_⟩
        rw [show List.drop 1 (w2 :: r2) = r2 from rfl] at q hit
        cases hi : itemM f b.length r2 with
        | error p =>
          rw [hi] at q
          exact Rt.fr q (frt fr f3)
        | ok y =>
          obtain ⟨it, w3⟩ := y
          rw [hi] at hit
          obtain ⟨t1, t2, t3⟩ := itemM_wf wff (by omega) hi
          intro H4 b4 f4 hc4 hf4
          exact ⟨w3.length, by simp; omega, g, _, w3, b4, rfl, rfl, by omega, by omega, shr.tail.suf t1, frt (frt fr f3) f4, hc4, hf4, t3, hit⟩
    · refine ifF (fun z => ha10 (hfeed.mp (tx_inj.mp z))) ?_
      rw [if_neg ha10] at q
      have hdot := hd_dot b.length rs
      refine ⟨_, rfl, rd_check hcr (k := [46]) rfl (fun d => ?_) (fun d => ?_)⟩
      · rw [if_pos (hdot.mp d)] at q
        exact ⟨_, rfl, q H' bf fr hff wff⟩
      · rw [if_neg (fun z => d (hdot.mpr z))] at q
        exact Rt.fr q fr
def sp_read_put : Sp := fun vs H Q E => ∃ a b c f, vs = [.ref a, .ref c] ∧ H a = some (.lst (nvs b)) ∧ b.length ≤ 2000 ∧ FileAt H c f ∧ Wf f ∧ match Vbenae.readItem f b with
  | .error p => Rt H E p
  | .ok x => ∀ H' p, Fr a_Cursor H H' → FileAt H' p (Vbenae.putItem f x) → Wf (Vbenae.putItem f x) → Q (.ref p) H'
theorem sc_read_put : FnScope ["text", "card_file", "cursor", "grown"] ["text", "card_file"] (defScope s_read_put) := C8.fnScope_by (by decide +kernel)
theorem c_read_put (T : Tx K mg) : Cal P w K mg base (L2.CX P w) 45 "read_put" a_read_put sp_read_put := by
  obtain ⟨fd, F⟩ := T.d_read_put
  refine ⟨⟨fd, ["text", "card_file"], F.okX sc_read_put (fun vs H Q E h => by obtain ⟨a, b, c, f, rfl, _⟩ := h; rfl) (fun cdv A outer s H vs Q E hr h => ⟨_, pss_cons (ps_set (i := 2) sc_read_put.nd rfl (Or.inl rfl) (pe_k (c_Cursor_init T) hr (by decide) rfl (pa_cons (pv 0) pa_nil)))
    (pss_cons (ps_set (i := 3) sc_read_put.nd rfl (Or.inl rfl) (pe_fX (c_read_line T) hr (by decide) (passes_call (takes_of rfl rfl rfl rfl) fun _ _ _ _ z => z) rfl (pa_cons (pv 2) (pa_cons (pv 1) pa_nil))))
    (pss_cons (ps_expr (pe_oX (c_Cursor_check T) hr (by decide) (passes_call (takes_of rfl rfl rfl rfl) fun _ _ _ _ z => z) (pv 2) (pa_cons (C8.pe_gc rfl T.k_TEXT_END) pa_nil)))
    (pss_one (ps_ret (pv 3))))), ?_⟩), F.binds fun _ _ _ _ _ _ us hl => match us, hl with | [_, _], _ => rfl⟩, T.g_read_put, F.kp⟩
  obtain ⟨a, b, bf, f, rfl, ha, hb, hf, wf, q⟩ := h
  rw [item_put wf hb] at q
  have hcl := (cut_len b 0).1
  have sh : shortW (VbenCore.cut 0 b) := fun w hw => by
    have := (cut_len b 0).2 w hw
    omega
  refine ⟨_, rfl, ?_⟩
  refine mk_cur ha (by omega) fun H1 c wl e1 hc => ?_
  refine ⟨_, rfl, _, rfl, c, wl, b.length, VbenCore.cut 0 b, bf, f, rfl, hc, hf.ex e1, wf, sh, by omega, ?_⟩
  cases hm : itemM f b.length (VbenCore.cut 0 b) with
  | error p =>
    rw [hm] at q
    exact Rt.ex q e1
  | ok y =>
    obtain ⟨x, w1⟩ := y
    rw [hm] at q
    obtain ⟨t1, t2, t3⟩ := itemM_wf wf (by omega) hm
    intro H2 b2 f2 hc2 hf2
    have hdot := hd_dot b.length w1
    have fr := frt (frx e1) f2
    dsimp only at q
    refine ⟨_, rfl, rd_check hc2 (k := [46]) rfl (fun d => ?_) (fun d => ?_)⟩
    · rw [if_pos (hdot.mp d)] at q
      exact ⟨_, rfl, q H2 b2 fr hf2 t3⟩
    · rw [if_neg (fun z => d (hdot.mpr z))] at q
      exact Rt.fr q fr
end
end N
namespace N
open PySem PySem.Spec PyProof.Rows L2 NX
open Vbenae (File Line Ask Plan)
/-! ### plans as rows, one stack of packs -/
def planK (k : Nat) : Nat → List Int → Option (Plan × List Int)
  | 0, _ => none
  | _ + 1, [] => none
  | g + 1, x :: l => if x = 0 then (match l with
      | [] => none
      | a :: r => if 0 ≤ a ∧ a ≤ 63 then some (.pile a.toNat, r) else none)
    else if 1 ≤ x ∧ x ≤ (k : Int) then (match planK k g l with
      | none => none
      | some (p, r) => match planK k g r with
        | none => none
        | some (q, r2) => some (.needle (x.toNat - 1) p q, r2))
    else none
theorem planK_cons (k g : Nat) (x : Int) (l : List Int) : planK k (g + 1) (x :: l) = (if x = 0 then (match l with
      | [] => none
      | a :: r => if 0 ≤ a ∧ a ≤ 63 then some (.pile a.toNat, r) else none)
    else if 1 ≤ x ∧ x ≤ (k : Int) then (match planK k g l with
      | none => none
      | some (p, r) => match planK k g r with
        | none => none
        | some (q, r2) => some (.needle (x.toNat - 1) p q, r2))
    else none) := by cases l <;> rfl
theorem planIn_cons (g : Nat) (x : Int) (l : List Int) : Vbenae.planIn (g + 1) (x :: l) = (if x = 0 then (match l with
      | [] => none
      | a :: r => if 0 ≤ a ∧ a ≤ 63 then some (.pile a.toNat, r) else none)
    else if 1 ≤ x ∧ x ≤ 6 then (match Vbenae.planIn g l with
      | none => none
      | some (p, r) => match Vbenae.planIn g r with
        | none => none
        | some (q, r2) => some (.needle (x.toNat - 1) p q, r2))
    else none) := by cases l <;> rfl
def okPlan (k : Nat) (y : Option (Plan × List Int)) : Option (Plan × List Int) := match y with
  | none => none
  | some (p, r) => if Vbenae.marksOk k p = true then some (p, r) else none
theorem plan_K {k : Nat} (hk : k ≤ 6) : ∀ (g : Nat) (l : List Int), planK k g l = okPlan k (Vbenae.planIn g l) := by
  intro g
  induction g with
  | zero => intro l; cases l <;> rfl
  | succ g ih =>
    intro l
    cases l with
    | nil => rfl
    | cons x l =>
      rw [planK_cons, planIn_cons]
      by_cases h0 : x = 0
      · rw [if_pos h0, if_pos h0]
        cases l with
        | nil => rfl
        | cons a r =>
          dsimp only
          by_cases ha : 0 ≤ a ∧ a ≤ 63
          · rw [if_pos ha] <;> rfl
          · rw [if_neg ha] <;> rfl
      · rw [if_neg h0, if_neg h0, ih l]
        by_cases hx : 1 ≤ x ∧ x ≤ (k : Int)
        · rw [if_pos hx, if_pos ⟨hx.1, by omega⟩]
          cases hp : Vbenae.planIn g l with
          | none => rfl
          | some q =>
            obtain ⟨p, r⟩ := q
            dsimp only [okPlan]
            by_cases hm : Vbenae.marksOk k p = true
            · rw [if_pos hm]
              dsimp only
              rw [ih r]
              cases hq : Vbenae.planIn g r with
              | none => rfl
              | some q2 =>
                obtain ⟨p2, r2⟩ := q2
                dsimp only [okPlan]
                have e : Vbenae.marksOk k (.needle (x.toNat - 1) p p2) = Vbenae.marksOk k p2 := by
                  rw [Vbenae.marksOk, hm, Bool.true_and, decide_eq_true (by omega), Bool.true_and]
                rw [e]
                by_cases hm2 : Vbenae.marksOk k p2 = true
                · rw [if_pos hm2, if_pos hm2]
                · rw [if_neg hm2, if_neg hm2]
            · rw [if_neg hm]
              cases hq : Vbenae.planIn g r with
              | none => rfl
              | some q2 =>
                obtain ⟨p2, r2⟩ := q2
                dsimp only
                rw [if_neg]
                rw [Vbenae.marksOk]
                intro z
                rw [Bool.and_eq_true, Bool.and_eq_true] at z
                exact hm z.2.1
        · rw [if_neg hx]
          by_cases h6 : 1 ≤ x ∧ x ≤ 6
          · rw [if_pos h6]
            cases hp : Vbenae.planIn g l with
            | none => rfl
            | some q =>
              obtain ⟨p, r⟩ := q
              dsimp only
              cases hq : Vbenae.planIn g r with
              | none => rfl
              | some q2 =>
                obtain ⟨p2, r2⟩ := q2
                dsimp only [okPlan]
                rw [if_neg]
                rw [Vbenae.marksOk]
                intro z
                rw [Bool.and_eq_true, decide_eq_true_eq] at z
                omega
          · rw [if_neg h6] <;> rfl
theorem planK_len {k : Nat} : ∀ (g : Nat) (l : List Int) (p : Plan) (r : List Int), planK k g l = some (p, r) → r.length < l.length := by
  intro g
  induction g with
  | zero => intro l p r h; cases h
  | succ g ih =>
    intro l p r h
    cases l with
    | nil => cases h
    | cons x l =>
      rw [planK_cons] at h
      split at h
      · cases l with
        | nil => cases h
        | cons a u =>
          dsimp only at h
          split at h
          · cases h; simp; omega
          · cases h
      · split at h
        · cases hp : planK k g l with
          | none => rw [hp] at h; cases h
          | some q =>
            obtain ⟨p1, r1⟩ := q
            rw [hp] at h
            dsimp only at h
            cases hq : planK k g r1 with
            | none => rw [hq] at h; cases h
            | some q2 =>
              obtain ⟨p2, r2⟩ := q2
              rw [hq] at h
              cases h
              have := ih l p1 r1 hp
              have := ih r1 p2 r hq
              simp; omega
        · cases h
theorem planK_stab {k : Nat} : ∀ (g : Nat) (l : List Int), l.length < g → planK k (g + 1) l = planK k g l := by
  intro g
  induction g with
  | zero => intro l h; omega
  | succ g ih =>
    intro l h
    cases l with
    | nil => rfl
    | cons x l =>
      rw [planK_cons, planK_cons k g]
      simp at h
      rw [ih l h]
      cases hp : planK k g l with
      | none => rfl
      | some q =>
        obtain ⟨p1, r1⟩ := q
        have := planK_len g l p1 r1 hp
        dsimp only
        rw [ih r1 (by omega)]
theorem planK_of {k : Nat} (l : List Int) : ∀ d, planK k (l.length + 1 + d) l = planK k (l.length + 1) l
  | 0 => rfl
  | d + 1 => by
    rw [← Nat.add_assoc, planK_stab _ _ (by omega), planK_of l d]
def PL (k : Nat) (l : List Int) : Option (Plan × List Int) := planK k (l.length + 1) l
theorem PL_of {k g : Nat} {l : List Int} (h : l.length < g) : planK k g l = PL k l := by
  have := planK_of (k := k) l (g - (l.length + 1))
  rw [show l.length + 1 + (g - (l.length + 1)) = g by omega] at this
  exact this
theorem PL_nil (k : Nat) : PL k [] = none := rfl
theorem PL_zero (k : Nat) (l : List Int) : PL k (0 :: l) = (match l with
      | [] => none
      | a :: r => if 0 ≤ a ∧ a ≤ 63 then some (.pile a.toNat, r) else none) := by
  unfold PL
  rw [planK_cons, if_pos rfl]
theorem PL_bad {k : Nat} {x : Int} {l : List Int} (h : x < 0 ∨ (k : Int) < x) : PL k (x :: l) = none := by
  unfold PL
  rw [planK_cons, if_neg (by omega), if_neg (by omega)]
theorem PL_needle {k : Nat} {x : Int} {l : List Int} (h : 1 ≤ x ∧ x ≤ (k : Int)) : PL k (x :: l) = (match PL k l with
      | none => none
      | some (p, r) => match PL k r with
        | none => none
        | some (q, r2) => some (.needle (x.toNat - 1) p q, r2)) := by
  unfold PL
  rw [planK_cons, if_neg (by omega), if_pos h]
  rw [List.length_cons]
  cases hp : planK k (l.length + 1) l with
  | none => rfl
  | some q =>
    obtain ⟨p, r⟩ := q
    dsimp only
    rw [PL_of (Nat.lt_succ_of_lt (planK_len _ _ _ _ hp))] <;> rfl
/-- what lies on the piles -/
structure Lay where
  g : Nat → Nat
  h : Nat → Nat
  D : Nat
def lay (S : List Nat) (d : Nat) (p : Plan) (st : Lay) : Lay := ⟨fun n => if n ∈ S then Vbenae.pileOf p n else st.g n, fun n => if n ∈ S then d + Vbenae.needlings p n else st.h n, max st.D (d + Vbenae.deepest p)⟩
def runP (k : Nat) : List (List Nat × Nat) → List Int → Lay → Option Lay
  | [], l, st => if l = [] then some st else none
  | x :: s, l, st => match PL k l with
    | none => none
    | some (p, r) => runP k s r (lay x.1 x.2 p st)
abbrev liftedS (S : List Nat) (m : Nat) : List Nat := S.filter fun n => !Vbenae.notched n m
abbrev fallenS (S : List Nat) (m : Nat) : List Nat := S.filter fun n => Vbenae.notched n m
theorem lay_needle (S : List Nat) (d m : Nat) (p q : Plan) (st : Lay) : lay S d (.needle m p q) st = lay (fallenS S m) (d + 1) q (lay (liftedS S m) (d + 1) p st) := by
  unfold lay
  congr 1
  · funext n
    dsimp only
    rw [Vbenae.pileOf]
    by_cases hn : n ∈ S <;> cases hb : Vbenae.notched n m <;> simp [hn, hb]
  · funext n
    dsimp only
    rw [Vbenae.needlings]
    by_cases hn : n ∈ S <;> cases hb : Vbenae.notched n m <;> simp [hn, hb] <;> omega
  · rw [Vbenae.deepest]
    dsimp only
    omega
theorem runP_needle {k : Nat} {x : Int} {l : List Int} {S : List Nat} {d : Nat} {s : List (List Nat × Nat)} {st : Lay} (h : 1 ≤ x ∧ x ≤ (k : Int)) :
    runP k ((S, d) :: s) (x :: l) st = runP k ((liftedS S (x.toNat - 1), d + 1) :: (fallenS S (x.toNat - 1), d + 1) :: s) l st := by
  rw [runP, PL_needle h, runP]
  cases PL k l with
  | none => rfl
  | some q =>
    obtain ⟨p, r⟩ := q
    dsimp only
    rw [runP]
    cases PL k r with
    | none => rfl
    | some q2 =>
      obtain ⟨p2, r2⟩ := q2
      dsimp only
      rw [lay_needle]
theorem runP_pile {k : Nat} {a : Int} {r : List Int} {S : List Nat} {d : Nat} {s : List (List Nat × Nat)} {st : Lay} (h : 0 ≤ a ∧ a ≤ 63) : runP k ((S, d) :: s) (0 :: a :: r) st = runP k s r (lay S d (.pile a.toNat) st) := by
  rw [runP, PL_zero]
  dsimp only
  rw [if_pos h]
theorem runP_none {k : Nat} {l : List Int} {x : List Nat × Nat} {s : List (List Nat × Nat)} {st : Lay} (h : PL k l = none) : runP k (x :: s) l st = none := by
  rw [runP, h]
def lay0 : Lay := ⟨fun _ => 0, fun _ => 0, 0⟩
theorem run_plan (f : File) (hk : f.marks.length ≤ 6) (S : List Nat) (l : List Int) : runP f.marks.length [(S, 0)] l lay0 = (Vbenae.planOf f l).map fun p => lay S 0 p lay0 := by
  rw [runP]
  unfold PL Vbenae.planOf
  rw [plan_K hk]
  cases Vbenae.planIn (l.length + 1) l with
  | none => rfl
  | some q =>
    obtain ⟨p, r⟩ := q
    dsimp only [okPlan]
    show _ = Option.map _ (match some (p, r) with | some (p, []) => if Vbenae.marksOk f.marks.length p = true then some p else none | _ => none)
    cases r with
    | nil =>
      dsimp only
      by_cases hm : Vbenae.marksOk f.marks.length p = true
      · rw [if_pos hm, if_pos hm]
        dsimp only
        rw [runP, if_pos rfl] <;> rfl
      · rw [if_neg hm, if_neg hm] <;> rfl
    | cons x r =>
      dsimp only
      by_cases hm : Vbenae.marksOk f.marks.length p = true
      · rw [if_pos hm]
        dsimp only
        rw [runP, if_neg (by simp)] <;> rfl
      · rw [if_neg hm] <;> rfl
end N
namespace N
open PySem PySem.Spec PyProof.Rows L2 NX
open Vbenae (File Line Ask Plan)
theorem bit_at (n m : Nat) : Builtin.bitAnd ((n : Int) / 2 ^ m) 1 = (((if Vbenae.notched n m = true then 1 else 0 : Nat)) : Int) := by
  rw [bitAnd_m1]
  have e5 : ((n : Nat) : Int) / 2 ^ m % 2 = ((n / 2 ^ m % 2 : Nat) : Int) := by
    rw [Int.natCast_emod, Int.natCast_ediv, Int.natCast_pow] <;> rfl
  rw [e5]
  unfold Vbenae.notched
  by_cases h : n / 2 ^ m % 2 = 1
  · rw [h] <;> rfl
  · have : n / 2 ^ m % 2 = 0 := by omega
    rw [this] <;> rfl
/-! ### packs -/
def PackAt (H : Hp) (bad : List Addr) (x : List Nat × Nat) (v : V) : Prop := ∃ a dx q : Addr, v = .ref a ∧ H a = some (.ins a_Pack dx [("notchings", .ref q), ("needlings", .int (x.2 : Nat))]) ∧ H q = some (.lst (nvs x.1)) ∧ q ∉ bad ∧ a ∉ bad
/-- what stands at none of these places stays -/
def But (bad : List Addr) (H H' : Hp) : Prop := ∀ a o, a ∉ bad → H a = some o → H' a = some o
theorem but_r {bad : List Addr} {H : Hp} : But bad H H := fun _ _ _ h => h
theorem but_x {bad : List Addr} {H H' : Hp} (e : Ex H H') : But bad H H' := fun a o _ h => e a o h
theorem but_t {bad : List Addr} {H H1 H2 : Hp} (a : But bad H H1) (b : But bad H1 H2) : But bad H H2 := fun x o n h => b x o n (a x o n h)
theorem but_u {bad : List Addr} {H : Hp} {p : Addr} {o : HO} (h : p ∈ bad) : But bad H (upd H p o) := fun a u n e => by
  rw [upd_ne (show a ≠ p from fun z => n (by rw [z]; exact h))]
  exact e
theorem but_ex {bad : List Addr} {H0 H H' : Hp} (e : Ex H0 H) (b : But bad H H') (hb : ∀ p ∈ bad, H0 p = none) : Ex H0 H' := fun a o h => b a o (fun z => by rw [hb a z] at h; cases h) (e a o h)
theorem PackAt.but {bad : List Addr} {H H' : Hp} (b : But bad H H') {x : List Nat × Nat} {v : V} (h : PackAt H bad x v) : PackAt H' bad x v := by
  obtain ⟨a, dx, q, rfl, h1, h2, h3, h4⟩ := h
  exact ⟨a, dx, q, rfl, b _ _ h4 h1, b _ _ h3 h2, h3, h4⟩
theorem but_sub {bad bad' : List Addr} {H H' : Hp} (b : But bad H H') (h : ∀ p ∈ bad, p ∈ bad') : But bad' H H' := fun a o n e => b a o (fun z => n (h a z)) e
section
variable {P : Program} {w : World} {K : PySem.W.Frag} {mg : Str → Option Value} {base : Heap}
def sp_number_at (K : PySem.W.Frag) (mg : Str → Option Value) : Sp := fun vs H Q E => ∃ (a : Addr) (ns : List Int) (i : Nat) (m : Int), vs = [.ref a, .int i, .int m] ∧ H a = some (.lst (iv ns)) ∧
  (∀ z, ns[i]? = some z → 0 ≤ z → z ≤ m → Q (.int z) H) ∧ ((∀ z, ns[i]? = some z → z < 0 ∨ m < z) → Rf K mg H E (-6))
theorem sc_number_at : FnScope ["row", "place", "most"] ["row", "place", "most"] (defScope s_number_at) := C8.fnScope_by (by decide +kernel)
theorem c_number_at (T : Tx K mg) : Cal P w K mg base (L2.CX P w) 4 "number_at" a_number_at (sp_number_at K mg) := by
  obtain ⟨fd, F⟩ := T.d_number_at
  refine ⟨⟨fd, ["row", "place", "most"], F.okX sc_number_at (fun vs H Q E h => by obtain ⟨a, ns, i, m, rfl, _⟩ := h; rfl) (fun cdv A outer s H vs Q E hr h => ⟨_, pss_cons (ps_if (PW.pt (pw_or (pt_cmpR op_ge (pv 1) (pe_callB call_len rfl T.f_len PySem.boot_len (pa_cons (pv 0) pa_nil)) (nomark _)) (pw_or (pt_cmpR op_lt (pe_ix ix_list (pv 0) (pv 1) (fun _ _ => rfl)) pe_int (nomark _)) (pw_or1 (pt_cmpR op_gt (pe_ix ix_list (pv 0) (pv 1) (fun _ _ => rfl)) (pv 2) (nomark _)))))) (pss_one (ps_rz (r_NotPlan T) hr (by decide) rfl rfl (takes_of rfl rfl rfl rfl))) pss_nil)
    (pss_one (ps_ret (pe_ix ix_list (pv 0) (pv 1) (fun _ _ => rfl)))), ?_⟩), F.binds fun _ _ _ _ _ _ us hl => match us, hl with | [_, _, _], _ => rfl⟩, T.g_number_at, F.kp⟩
  obtain ⟨a, ns, i, m, rfl, ha, q, qe⟩ := h
  have hl : (iv ns).length = ns.length := List.length_map ..
  refine ⟨_, rfl, _, rfl, _, _, rfl, .inl ⟨_, SqL.of ha, rfl⟩, _, _, rfl, rfl, _, rfl, ?_⟩
  rw [hl]
  by_cases c : i < ns.length
  · refine ifF (by omega) ?_
    have hz : ns[i]? = some ns[i] := List.getElem?_eq_getElem c
    have hv : (iv ns)[i]? = some (.int ns[i]) := by rw [List.getElem?_map, hz] <;> rfl
    generalize ns[i] = z at *
    refine ⟨_, rfl, _, rfl, _, _, _, _, rfl, rfl, SqL.of ha, atI_nat hv, _, _, rfl, rfl, _, rfl, ?_⟩
    by_cases c2 : z < 0
    · refine ifT c2 (iteT ?_)
      exact Rf.go (qe fun y hy => by rw [hz] at hy; cases hy; exact .inl c2) T.x_NotPlan
    · refine ifF c2 ?_
      refine ⟨_, rfl, _, rfl, _, _, _, _, rfl, rfl, SqL.of ha, atI_nat hv, _, rfl, _, _, rfl, rfl, _, rfl, ?_⟩
      by_cases c3 : m < z
      · refine ifT c3 ?_
        exact Rf.go (qe fun y hy => by rw [hz] at hy; cases hy; exact .inr c3) T.x_NotPlan
      · refine ifF c3 ?_
        exact ⟨_, rfl, _, rfl, _, _, _, _, rfl, rfl, SqL.of ha, atI_nat hv, q z hz (by omega) (by omega)⟩
  · refine ifT (by omega) (iteT ?_)
    exact Rf.go (qe fun y hy => by rw [List.getElem?_eq_none (by omega)] at hy; cases hy) T.x_NotPlan
def sp_pack (lift : Bool) : Sp := fun vs H Q _ => ∃ (bad : List Addr) (x : List Nat × Nat) (v : V) (m : Nat), vs = [v, .int m] ∧ PackAt H bad x v ∧ x.1.length ≤ 64 ∧ (∀ b ∈ bad, H b ≠ none) ∧
  ∀ H' u, Ex H H' → PackAt H' bad (if lift = true then liftedS x.1 m else fallenS x.1 m, x.2 + 1) u → Q u H'
abbrev pks (q : Addr) (d : Nat) : List (Str × V) := [("notchings", .ref q), ("needlings", .int (d : Nat))]
theorem fm_nums (S : List Nat) (p : Nat → Bool) : (List.range S.length).filterMap (fun i => S[i]?.bind fun n => if p n = true then some (V.int ((n : Nat) : Int)) else none) = nvs (S.filter p) := by
  rw [range_fm, fm_filter]
theorem sc_lifted_pack : FnScope ["pack", "mark", "notching"] ["pack", "mark"] (defScope s_lifted_pack) := C8.fnScope_by (by decide +kernel)
theorem c_lifted_pack (T : Tx K mg) : Cal P w K mg base CX0 3 "lifted_pack" a_lifted_pack (sp_pack true) := by
  obtain ⟨fd, F⟩ := T.d_lifted_pack
  refine ⟨⟨fd, ["pack", "mark"], F.ok sc_lifted_pack (fun vs H Q E h => by obtain ⟨bad, x, v, m, rfl, _⟩ := h; rfl) (fun cdv A outer s H vs Q E hr h => ⟨_, pss_one (ps_ret (pe_k (c_Pack_init T) hr (by decide) rfl (by exact (pa_cons (by exact (pe_lc (own := [("notching", 2)]) (g := gName 2) rfl sc_lifted_pack.nd (pi_list (pe_fld (pv 0) rfl)) (blkOk_by (own := [("notching", 2)]) (N := ["pack", "mark", "notching"]) (sc := defScope s_lifted_pack) (by decide +kernel)) (fun _ _ _ _ _ => by exact (pg_name (i := 2) sc_lifted_pack.nd rfl (Or.inl rfl))) (fun _ _ _ _ _ => by exact (pts_one (pt_cmpR op_eq (pe_op op_and (pe_op op_shr (pv 2) (pv 1)) pe_int) pe_int (nomark _)))) (fun _ _ _ _ _ => by exact (pv 2)))) (pa_cons (pe_op op_add (pe_fld (pv 0) rfl) pe_int) pa_nil))))), ?_⟩), F.binds fun _ _ _ _ _ _ us hl => match us, hl with | [_, _], _ => rfl⟩, T.g_lifted_pack, F.kp⟩
  obtain ⟨bad, ⟨S, d⟩, v, m, rfl, ⟨pa, pd, pq, rfl, h1, h2, h3, h4⟩, hl, hb, q⟩ := h
  have hn : (nvs S).length = S.length := nvs_len S
  refine ⟨_, rfl, pa, _, pd, _, _, rfl, h1, T.cl_Pack, T.na_Pack_notchings, rfl, pq, rfl, ⟨_, SqL.of h2⟩, fun D hD => ?_⟩
  refine lc_val (walk_list (K := K) (a := pq) (xs := nvs S)) (fun i => S[i]?.bind fun n => if (!Vbenae.notched n m) = true then some (V.int ((n : Nat) : Int)) else none) (by rw [hn]; dsimp only at hl; omega) hD (fun H2 e2 => SqL.of (e2 _ _ h2)) (fun i u H2 H' C C0 hi e2 y hC hC0 => ?_) (fun H2 e2 h2' => ?_)
  · obtain ⟨rfl, hx⟩ := y
    rw [List.getElem?_map] at hx
    obtain ⟨n, hn2, rfl⟩ := Option.map_eq_some_iff.mp hx
    rw [hn2] at hC hC0
    refine ⟨rfl, _, rfl, _, rfl, _, _, rfl, rfl, by omega, _, _, rfl, rfl, rfl, _, rfl, ?_⟩
    rw [Int.toNat_natCast]
    show if decide (V.int (Builtin.bitAnd ((n : Int) / 2 ^ m) 1) = V.int 0) = true then _ else _
    rw [bit_at]
    cases hb2 : Vbenae.notched n m with
    | true =>
      refine iteF (hC0 _ exr ?_)
      show (if (!Vbenae.notched n m) = true then _ else _) = _
      rw [hb2] <;> rfl
    | false =>
      refine iteT ⟨_, rfl, hC _ _ exr ?_⟩
      show (if (!Vbenae.notched n m) = true then _ else _) = _
      rw [hb2] <;> rfl
  · rw [hn, fm_nums] at h2'
    refine ⟨_, rfl, pa, _, pd, _, _, rfl, e2 _ _ h1, T.cl_Pack, T.na_Pack_needlings, rfl, _, _, rfl, rfl, ?_⟩
    refine mk_keep rfl fun x2 dx2 hx hd => ?_
    have e3 := made_ex (C := a_Pack) (fs := pks D (d + 1)) hx hd
    refine q _ _ (ext e2 e3) ⟨x2, dx2, D, rfl, made_at, e3 _ _ h2', fun z => hb D z hD, fun z => hb x2 z (frb e2 hx)⟩
theorem sc_fallen_pack : FnScope ["pack", "mark", "notching"] ["pack", "mark"] (defScope s_fallen_pack) := C8.fnScope_by (by decide +kernel)
theorem c_fallen_pack (T : Tx K mg) : Cal P w K mg base CX0 3 "fallen_pack" a_fallen_pack (sp_pack false) := by
  obtain ⟨fd, F⟩ := T.d_fallen_pack
  refine ⟨⟨fd, ["pack", "mark"], F.ok sc_fallen_pack (fun vs H Q E h => by obtain ⟨bad, x, v, m, rfl, _⟩ := h; rfl) (fun cdv A outer s H vs Q E hr h => ⟨_, pss_one (ps_ret (pe_k (c_Pack_init T) hr (by decide) rfl (by exact (pa_cons (by exact (pe_lc (own := [("notching", 2)]) (g := gName 2) rfl sc_fallen_pack.nd (pi_list (pe_fld (pv 0) rfl)) (blkOk_by (own := [("notching", 2)]) (N := ["pack", "mark", "notching"]) (sc := defScope s_fallen_pack) (by decide +kernel)) (fun _ _ _ _ _ => by exact (pg_name (i := 2) sc_fallen_pack.nd rfl (Or.inl rfl))) (fun _ _ _ _ _ => by exact (pts_one (pt_cmpR op_eq (pe_op op_and (pe_op op_shr (pv 2) (pv 1)) pe_int) pe_int (nomark _)))) (fun _ _ _ _ _ => by exact (pv 2)))) (pa_cons (pe_op op_add (pe_fld (pv 0) rfl) pe_int) pa_nil))))), ?_⟩), F.binds fun _ _ _ _ _ _ us hl => match us, hl with | [_, _], _ => rfl⟩, T.g_fallen_pack, F.kp⟩
  obtain ⟨bad, ⟨S, d⟩, v, m, rfl, ⟨pa, pd, pq, rfl, h1, h2, h3, h4⟩, hl, hb, q⟩ := h
  have hn : (nvs S).length = S.length := nvs_len S
  refine ⟨_, rfl, pa, _, pd, _, _, rfl, h1, T.cl_Pack, T.na_Pack_notchings, rfl, pq, rfl, ⟨_, SqL.of h2⟩, fun D hD => ?_⟩
  refine lc_val (walk_list (K := K) (a := pq) (xs := nvs S)) (fun i => S[i]?.bind fun n => if Vbenae.notched n m = true then some (V.int ((n : Nat) : Int)) else none) (by rw [hn]; dsimp only at hl; omega) hD (fun H2 e2 => SqL.of (e2 _ _ h2)) (fun i u H2 H' C C0 hi e2 y hC hC0 => ?_) (fun H2 e2 h2' => ?_)
  · obtain ⟨rfl, hx⟩ := y
    rw [List.getElem?_map] at hx
    obtain ⟨n, hn2, rfl⟩ := Option.map_eq_some_iff.mp hx
    rw [hn2] at hC hC0
    refine ⟨rfl, _, rfl, _, rfl, _, _, rfl, rfl, by omega, _, _, rfl, rfl, rfl, _, rfl, ?_⟩
    rw [Int.toNat_natCast]
    show if decide (V.int (Builtin.bitAnd ((n : Int) / 2 ^ m) 1) = V.int 1) = true then _ else _
    rw [bit_at]
    cases hb2 : Vbenae.notched n m with
    | false =>
      refine iteF (hC0 _ exr ?_)
      show (if Vbenae.notched n m = true then _ else _) = _
      rw [hb2] <;> rfl
    | true =>
      refine iteT ⟨_, rfl, hC _ _ exr ?_⟩
      show (if Vbenae.notched n m = true then _ else _) = _
      rw [hb2] <;> rfl
  · rw [hn, fm_nums] at h2'
    refine ⟨_, rfl, pa, _, pd, _, _, rfl, e2 _ _ h1, T.cl_Pack, T.na_Pack_needlings, rfl, _, _, rfl, rfl, ?_⟩
    refine mk_keep rfl fun x2 dx2 hx hd => ?_
    have e3 := made_ex (C := a_Pack) (fs := pks D (d + 1)) hx hd
    refine q _ _ (ext e2 e3) ⟨x2, dx2, D, rfl, made_at, e3 _ _ h2', fun z => hb D z hD, fun z => hb x2 z (frb e2 hx)⟩
end
end N
namespace N
open PySem PySem.Spec PyProof.Rows L2 NX
open Vbenae (File Line Ask Plan)
abbrev pfs3 (lp ln : Addr) (D : Nat) : List (Str × V) := [("piles", .ref lp), ("needlings", .ref ln), ("deepest", .int (D : Nat))]
def PartI (H : Hp) (x dx lp ln : Addr) (N : Nat) (st : Lay) : Prop := H x = some (.ins a_Parting dx (pfs3 lp ln st.D)) ∧ H lp = some (.lst (nvs (tab N st.g))) ∧ H ln = some (.lst (nvs (tab N st.h))) ∧ lp ≠ ln
def PartingAt (H : Hp) (v : V) (N : Nat) (st : Lay) : Prop := ∃ x dx lp ln, v = .ref x ∧ PartI H x dx lp ln N st
theorem nxH {p : L2.St → Hp → Prop} {σ : L2.St} {H H' : Hp} (h : H = H') (q : p σ H') : p σ H := h ▸ q
section
variable {P : Program} {w : World} {K : PySem.W.Frag} {mg : Str → Option Value} {base : Heap}
def sp_Parting : Sp := fun vs H Q _ => ∃ (x dx : Addr) (N : Nat), vs = [.ref x, .int N] ∧ H x = some (.ins a_Parting dx []) ∧ N ≤ 64 ∧
  ∀ H1 lp ln, But [x] H H1 → H lp = none → H ln = none → PartI H1 x dx lp ln N lay0 → Q .non H1
theorem sc_Parting_init : FnScope ["self", "notching_count"] ["self", "notching_count"] (defScope s_Parting_init) := C8.fnScope_by (by decide +kernel)
theorem c_Parting_init (T : Tx K mg) : Mak P w K mg base 1 "Parting" a_Parting sp_Parting := by
  obtain ⟨fd, F⟩ := T.d_Parting_init
  refine ⟨⟨_, fd, ["self", "notching_count"], T.mk_Parting, F.ok sc_Parting_init (fun vs H Q E h => by obtain ⟨x, dx, N, rfl, _⟩ := h; rfl) (fun cdv A outer s H vs Q E hr h => ⟨_, pss_cons (ps_fld (pv 0) (pe_op op_rep (pe_lst (pa_cons pe_int pa_nil)) (pv 1)) rfl)
    (pss_cons (ps_fld (pv 0) (pe_op op_rep (pe_lst (pa_cons pe_int pa_nil)) (pv 1)) rfl)
    (pss_one (ps_fld (pv 0) pe_int rfl))), ?_⟩), F.binds fun _ _ _ _ _ _ us hl => match us, hl with | [_, _], _ => rfl⟩, T.g_Parting⟩
  obtain ⟨x, dx, N, rfl, hx, hN, q⟩ := h
  refine ⟨by show 1 ≤ sizeLine; decide, fun p0 hp0 => ?_⟩
  have e0 := exn (o := .lst [V.int 0]) hp0
  refine ⟨_, rfl, _, _, _, rfl, rfl, upd_same, by omega, by omega, szl (by show 1 * _ ≤ _; rw [Int.toNat_natCast]; omega), fun p hp => ?_⟩
  rw [Int.toNat_natCast, rep_flat, tab_zero]
  have e1 := exn (o := .lst (nvs (tab N fun _ => 0))) hp
  refine ⟨_, rfl, x, _, dx, _, rfl, e1 _ _ (e0 _ _ hx), T.cl_Parting, T.na_Parting_piles, (by show 0 < 1000; decide), ?_⟩
  refine ⟨by show 1 ≤ sizeLine; decide, fun p2 hp2 => ?_⟩
  have e2 := exn (o := .lst [V.int 0]) hp2
  refine ⟨_, rfl, _, _, _, rfl, rfl, upd_same, by omega, by omega, szl (by show 1 * _ ≤ _; rw [Int.toNat_natCast]; omega), fun p3 hp3 => ?_⟩
  rw [Int.toNat_natCast, rep_flat, tab_zero]
  have e3 := exn (o := .lst (nvs (tab N fun _ => 0))) hp3
  refine ⟨_, rfl, x, _, dx, _, rfl, e3 _ _ (e2 _ _ upd_same), T.cl_Parting, T.na_Parting_needlings, (by show 1 < 1000; decide), ?_⟩
  refine ⟨_, rfl, x, _, dx, _, rfl, upd_same, T.cl_Parting, T.na_Parting_deepest, (by show 2 < 1000; decide), ?_⟩
  have hm : x ∈ [x] := List.mem_singleton.mpr rfl
  have b1 : But [x] H _ := but_t (but_x (ext e0 e1)) (but_u (o := .ins a_Parting dx [("piles", .ref p)]) hm)
  have b2 := but_t b1 (but_x (ext e2 e3))
  have hpx : p ≠ x := ne_of upd_same (e1 _ _ (e0 _ _ hx)) (by intro z; cases z)
  have hp3x : p3 ≠ x := ne_of upd_same (e3 _ _ (e2 _ _ upd_same)) (by intro z; cases z)
  have hpp : p ≠ p3 := ne_of_none (e2 _ _ ((upd_ne hpx).trans upd_same)) hp3
  have hpn : H p = none := frb e0 hp
  have hp3n : H p3 = none := by
    cases hh : H p3 with
    | none => rfl
    | some o =>
      have h1 := (ext e0 e1) _ _ hh
      have h2 := e2 _ _ ((upd_ne (o := .ins a_Parting dx [("piles", .ref p)]) hp3x).trans h1)
      exact absurd (h2.symm.trans hp3) (by simp)
  refine q _ p p3 (but_t (but_t b2 (but_u hm)) (but_u hm)) hpn hp3n ⟨upd_same, ?_, ?_, hpp⟩
  · rw [upd_ne hpx, upd_ne hpx]
    exact e3 _ _ (e2 _ _ ((upd_ne hpx).trans upd_same))
  · rw [upd_ne hp3x, upd_ne hp3x]
    exact upd_same
theorem mk_part {N : Nat} {H : Hp} {Q : Addr → Hp → Prop} {E : XK} (hN : N ≤ 64) (q : ∀ H' x dx lp ln, Ex H H' → H x = none → H lp = none → H ln = none → PartI H' x dx lp ln N lay0 → Q x H') :
    ∀ x dx, H x = none → H dx = none → dx ≠ x → sp_Parting (.ref x :: ([.int N] ++ [])) (upd (upd H dx (.own x)) x (.ins a_Parting dx [])) (fun v H2 => v = .non ∧ Q x H2) E := fun x dx hx hd hne => by
  have e0 : Ex H (upd (upd H dx (.own x)) x (.ins a_Parting dx [])) := made_ex hx hd
  refine ⟨x, dx, N, rfl, upd_same, hN, fun H1 lp ln b h1 h2 h3 => ⟨rfl, ?_⟩⟩
  exact q H1 x dx lp ln (but_ex e0 b fun p hp => by rw [List.mem_singleton.mp hp]; exact hx) hx (frb e0 h1) (frb e0 h2) h3
/-- while a pack is laid down -/
def layTo (S : List Nat) (d a : Nat) (st : Lay) : Lay := ⟨fun n => if n ∈ S then a else st.g n, fun n => if n ∈ S then d else st.h n, max st.D d⟩
theorem layTo_pile (S : List Nat) (d a : Nat) (st : Lay) : layTo S d a st = lay S d (.pile a) st := rfl
def sp_lay_down : Sp := fun vs H Q _ => ∃ (x dx lp ln : Addr) (N : Nat) (st : Lay) (bad : List Addr) (y : List Nat × Nat) (v : V) (a : Nat), vs = [.ref x, v, .int a] ∧ PartI H x dx lp ln N st ∧ PackAt H bad y v ∧ x ∈ bad ∧ lp ∈ bad ∧ ln ∈ bad ∧ (∀ n ∈ y.1, n < N) ∧
  ∀ H', But [x, lp, ln] H H' → PartI H' x dx lp ln N (lay y.1 y.2 (.pile a) st) → Q .non H'
theorem sc_lay_down : FnScope ["parting", "pack", "pile", "notching"] ["parting", "pack", "pile"] (defScope s_lay_down) := C8.fnScope_by (by decide +kernel)
theorem c_lay_down (T : Tx K mg) : Cal P w K mg base CX0 1 "lay_down" a_lay_down sp_lay_down := by
  obtain ⟨fd, F⟩ := T.d_lay_down
  refine ⟨⟨fd, ["parting", "pack", "pile"], F.ok sc_lay_down (fun vs H Q E h => by obtain ⟨x, dx, lp, ln, N, st, bad, y, v, a, rfl, _⟩ := h; rfl) (fun cdv A outer s H vs Q E hr h => ⟨_, pss_cons (ps_fld (pv 0) (pe_callB (call_max2 rfl) rfl T.f_max (by decide +kernel) (pa_cons (pe_fld (pv 0) rfl) (pa_cons (pe_fld (pv 1) rfl) pa_nil))) rfl)
    (pss_one (ps_for PassesOwn.never rfl (pi_list (pe_fld (pv 1) rfl)) (pg_name (i := 3) sc_lay_down.nd rfl (Or.inl rfl))
    (pss_cons (ps_asg (pv 2) (pg_sub (pe_fld (pv 0) rfl) (pv 3) set_list))
    (pss_one (ps_asg (pe_fld (pv 1) rfl) (pg_sub (pe_fld (pv 0) rfl) (pv 3) set_list)))))), ?_⟩), F.binds fun _ _ _ _ _ _ us hl => match us, hl with | [_, _, _], _ => rfl⟩, T.g_lay_down, F.kp⟩
  obtain ⟨x, dx, lp, ln, N, st, bad, ⟨S, d⟩, v, a, rfl, hp, hk, m1, m2, m3, hS, q⟩ := h
  obtain ⟨p1, p2, p3, p4⟩ := hp
  obtain ⟨pa, pd, pq, rfl, k1, k2, k3, k4⟩ := hk
  have i1 : x ∈ [x, lp, ln] := by simp
  have i2 : lp ∈ [x, lp, ln] := by simp
  have i3 : ln ∈ [x, lp, ln] := by simp
  have sub : ∀ p ∈ [x, lp, ln], p ∈ bad := fun p hp => by
    rcases List.mem_cons.mp hp with h | hp
    · rw [h]; exact m1
    rcases List.mem_cons.mp hp with h | hp
    · rw [h]; exact m2
    · rw [List.mem_singleton.mp hp]; exact m3
  have hlx : lp ≠ x := ne_of p2 p1 (by intro z; cases z)
  have hnx : ln ≠ x := ne_of p3 p1 (by intro z; cases z)
  refine ⟨_, rfl, x, _, dx, _, _, rfl, p1, T.cl_Parting, T.na_Parting_deepest, rfl, _, rfl, pa, _, pd, _, _, rfl, k1, T.cl_Pack, T.na_Pack_needlings, rfl, _, _, rfl, _, rfl, x, _, dx, _, rfl, p1, T.cl_Parting, T.na_Parting_deepest, (by show 3 < 1000; decide), ?_⟩
  have hmx : (if ((d : Nat) : Int) > ((st.D : Nat) : Int) then ((d : Nat) : Int) else ((st.D : Nat) : Int)) = ((max st.D d : Nat) : Int) := by
    split <;> omega
  have b0 : But [x, lp, ln] H (upd H x (.ins a_Parting dx (pfs3 lp ln (max st.D d)))) := but_u i1
  have P0 : PartI (upd H x (.ins a_Parting dx (pfs3 lp ln (max st.D d)))) x dx lp ln N (layTo [] d a st) := ⟨upd_same, (upd_ne hlx).trans p2, (upd_ne hnx).trans p3, p4⟩
  have hput : upd H x (.ins a_Parting dx (putF "deepest" (.int (if ((d : Nat) : Int) > ((st.D : Nat) : Int) then ((d : Nat) : Int) else ((st.D : Nat) : Int))) (pfs3 lp ln st.D))) = upd H x (.ins a_Parting dx (pfs3 lp ln (max st.D d))) := by
    rw [hmx]; rfl
  refine nxH hput ?_
  have hn : (nvs S).length = S.length := nvs_len S
  refine ⟨_, rfl, pa, _, pd, _, _, rfl, b0 _ _ (fun z => k4 (sub _ z)) k1, T.cl_Pack, T.na_Pack_notchings, rfl, pq, rfl, ⟨_, SqL.of (b0 _ _ (fun z => k3 (sub _ z)) k2)⟩, ?_⟩
  refine for_list (K := K) (a := pq) (xs := nvs S) (fun i σ H' => ∃ u, σ = [some (.ref x), some (.ref pa), some (.int (a : Nat)), u] ∧ But [x, lp, ln] H H' ∧ PartI H' x dx lp ln N (layTo (S.take i) d a st))
    ⟨_, rfl, b0, P0⟩ (fun i σ H' _ ⟨_, _, b, _⟩ => SqL.of (b _ _ (fun z => k3 (sub _ z)) k2)) ?_ ?_
  · rintro i y σ H' hi ⟨u, rfl, b, r1, r2, r3, r4⟩
    rw [List.getElem?_map] at hi
    obtain ⟨n, hn2, rfl⟩ := Option.map_eq_some_iff.mp hi
    have hb := hS n (List.mem_of_getElem? hn2)
    refine ⟨_, rfl, _, rfl, x, _, dx, _, _, rfl, r1, T.cl_Parting, T.na_Parting_piles, rfl, _, rfl, _, _, _, _, rfl, rfl, r2, Evl.ixN_nat (by rw [nvs_len, tab_len]; exact hb), ?_⟩
    have hpx2 : pa ≠ lp := fun z => k4 (sub _ (z ▸ i2))
    have hpl : pa ≠ ln := fun z => k4 (sub _ (z ▸ i3))
    have k1' := b _ _ (fun z => k4 (sub _ z)) k1
    refine ⟨_, rfl, pa, _, pd, _, _, rfl, (upd_ne hpx2).trans k1', T.cl_Pack, T.na_Pack_needlings, rfl, _, rfl, x, _, dx, _, _, rfl, (upd_ne (Ne.symm hlx)).trans r1, T.cl_Parting, T.na_Parting_needlings, rfl, _, rfl, _, _, _, _, rfl, rfl, (upd_ne (Ne.symm p4)).trans r3, Evl.ixN_nat (by rw [nvs_len, tab_len]; exact hb), ?_⟩
    refine ⟨_, rfl, but_t b (but_t (but_u i2) (but_u i3)), (upd_ne (Ne.symm hnx)).trans ((upd_ne (Ne.symm hlx)).trans r1), ?_, ?_, p4⟩
    · rw [upd_ne p4, upd_same, take_more hn2]
      exact congrArg (fun z => some (HO.lst z)) (tab_set hb (by show (if n ∈ _ then a else _) = a; rw [if_pos (by simp)]) fun n2 h2 => by
        show (if n2 ∈ S.take i ++ [n] then a else st.g n2) = if n2 ∈ S.take i then a else st.g n2
        simp [h2])
    · rw [upd_same, take_more hn2]
      exact congrArg (fun z => some (HO.lst z)) (tab_set hb (by show (if n ∈ _ then d else _) = d; rw [if_pos (by simp)]) fun n2 h2 => by
        show (if n2 ∈ S.take i ++ [n] then d else st.h n2) = if n2 ∈ S.take i then d else st.h n2
        simp [h2])
  · rintro σ H' ⟨u, rfl, b, r⟩
    rw [hn, List.take_length] at r
    exact q H' b r
end
end N
namespace N
open PySem PySem.Spec PyProof.Rows L2 NX
open Vbenae (File Line Ask Plan)
theorem rgV_nat (n : Nat) : rgV 0 (n : Int) = nvs (List.range n) := by
  unfold rgV
  rw [Int.sub_zero, Int.toNat_natCast]
  apply List.map_congr_left
  intro i _
  rw [Int.zero_add]
section
variable {P : Program} {w : World} {K : PySem.W.Frag} {mg : Str → Option Value} {base : Heap}
def sp_part_by_plan (K : PySem.W.Frag) (mg : Str → Option Value) : Sp := fun vs H Q E => ∃ (a b : Addr) (ns : List Int) (f : File), vs = [.ref a, .ref b] ∧ H a = some (.lst (iv ns)) ∧ ns.length ≤ 3000 ∧ H b = some (.lst (f.marks.map tx)) ∧ f.marks.length ≤ 6 ∧
  match Vbenae.planOf f ns with
  | none => Rf K mg H E (-6)
  | some p => ∀ H' v, Ex H H' → PartingAt H' v (2 ^ f.marks.length) (lay (List.range (2 ^ f.marks.length)) 0 p lay0) → Q v H'
theorem sc_part_by_plan : FnScope ["row", "marks", "notching_count", "parting", "waiting", "place", "pack", "number"] ["row", "marks"] (defScope s_part_by_plan) := C8.fnScope_by (by decide +kernel)
theorem c_part_by_plan (T : Tx K mg) : Cal P w K mg base (L2.CX P w) 6 "part_by_plan" a_part_by_plan (sp_part_by_plan K mg) := by
  obtain ⟨fd, F⟩ := T.d_part_by_plan
  refine ⟨⟨fd, ["row", "marks"], F.okX sc_part_by_plan (fun vs H Q E h => by obtain ⟨a, b, ns, f, rfl, _⟩ := h; rfl) (fun cdv A outer s H vs Q E hr h => ⟨_, pss_cons (ps_set (i := 2) sc_part_by_plan.nd rfl (Or.inl rfl) (pe_f (c_count_notchings T) hr (by decide) rfl (pa_cons (pv 1) pa_nil)))
    (pss_cons (ps_set (i := 3) sc_part_by_plan.nd rfl (Or.inl rfl) (pe_k (c_Parting_init T) hr (by decide) rfl (pa_cons (pv 2) pa_nil)))
    (pss_cons (ps_set (i := 4) sc_part_by_plan.nd rfl (Or.inl rfl) (pe_lst (pa_cons (pe_k (c_Pack_init T) hr (by decide) rfl (pa_cons (pe_listRg rfl rfl T.f_list (prg_1 rfl T.f_range (pv 2))) (pa_cons pe_int pa_nil))) pa_nil)))
    (pss_cons (ps_set (i := 5) sc_part_by_plan.nd rfl (Or.inl rfl) pe_int)
    (pss_cons (ps_while (passes_of rfl) (pt_cmpR op_gt (pe_callB call_len rfl T.f_len PySem.boot_len (pa_cons (pv 4) pa_nil)) pe_int (nomark _))
    (pss_cons (ps_set (i := 6) sc_part_by_plan.nd rfl (Or.inl rfl) (pe_bm0 PySem.F.plainAttrs_list PySem.F.slot_list_pop PySem.F.type_list_pop mt_pop (pv 4)))
    (pss_cons (ps_set (i := 7) sc_part_by_plan.nd rfl (Or.inl rfl) (pe_fX (c_number_at T) hr (by decide) (passes_call (takes_of rfl rfl rfl rfl) fun _ _ _ _ z => z) rfl (pa_cons (pv 0) (pa_cons (pv 5) (pa_cons (pe_callB call_len rfl T.f_len PySem.boot_len (pa_cons (pv 1) pa_nil)) pa_nil)))))
    (pss_one (ps_if (pt_cmpR op_eq (pv 7) pe_int (nomark _)) (pss_cons (ps_expr (pe_f (c_lay_down T) hr (by decide) rfl (pa_cons (pv 3) (pa_cons (pv 6) (pa_cons (pe_fX (c_number_at T) hr (by decide) (passes_call (takes_of rfl rfl rfl rfl) fun _ _ _ _ z => z) rfl (pa_cons (pv 0) (pa_cons (pe_op op_add (pv 5) pe_int) (pa_cons (C8.pe_gc rfl T.k_MOST_PILE) pa_nil)))) pa_nil)))))
    (pss_one (ps_set (i := 5) sc_part_by_plan.nd rfl (Or.inl rfl) (pe_op op_add (pv 5) pe_int)))) (pss_cons (ps_expr (pe_bm PySem.F.plainAttrs_list PySem.F.slot_list_append PySem.F.type_list_append mt_append (pv 4) (pa_cons (pe_f (c_fallen_pack T) hr (by decide) rfl (pa_cons (pv 6) (pa_cons (pe_op op_sub (pv 7) pe_int) pa_nil))) pa_nil)))
    (pss_cons (ps_expr (pe_bm PySem.F.plainAttrs_list PySem.F.slot_list_append PySem.F.type_list_append mt_append (pv 4) (pa_cons (pe_f (c_lifted_pack T) hr (by decide) rfl (pa_cons (pv 6) (pa_cons (pe_op op_sub (pv 7) pe_int) pa_nil))) pa_nil)))
    (pss_one (ps_set (i := 5) sc_part_by_plan.nd rfl (Or.inl rfl) (pe_op op_add (pv 5) pe_int))))))))))
    (pss_cons (ps_if (pt_cmpR op_lt (pv 5) (pe_callB call_len rfl T.f_len PySem.boot_len (pa_cons (pv 0) pa_nil)) (nomark _)) (pss_one (ps_rz (r_NotPlan T) hr (by decide) rfl rfl (takes_of rfl rfl rfl rfl))) pss_nil)
    (pss_one (ps_ret (pv 3)))))))), ?_⟩), F.binds fun _ _ _ _ _ _ us hl => match us, hl with | [_, _], _ => rfl⟩, T.g_part_by_plan, F.kp⟩
  obtain ⟨a, b, ns, f, rfl, ha, hl, hb, wm, q⟩ := h
  have hk := pow6 wm
  have hN : (2 ^ f.marks.length) ≤ 64 := hk.2
  have hlm : (f.marks.map tx).length = f.marks.length := List.length_map ..
  have hln : (iv ns).length = ns.length := List.length_map ..
  have qn : runP f.marks.length [(List.range (2 ^ f.marks.length), 0)] ns lay0 = none → Rf K mg H E (-6) := fun z => by
    rw [run_plan f wm] at z
    rw [Option.map_eq_none_iff.mp z] at q
    exact q
  have qs : ∀ st, runP f.marks.length [(List.range (2 ^ f.marks.length), 0)] ns lay0 = some st → ∀ H' v, Ex H H' → PartingAt H' v (2 ^ f.marks.length) st → Q v H' := fun st z => by
    rw [run_plan f wm] at z
    obtain ⟨p, hp, rfl⟩ := Option.map_eq_some_iff.mp z
    rw [hp] at q
    exact q
  generalize hR : runP f.marks.length [(List.range (2 ^ f.marks.length), 0)] ns lay0 = R at qn qs
  refine ⟨_, rfl, b, _, rfl, hb, by rw [hlm]; exact wm, ?_⟩
  rw [hlm]
  refine ⟨_, rfl, ?_⟩
  refine mk_part hN fun H1 x dx lp ln e1 nx nlp nln P1 => ?_
  refine ⟨_, rfl, _, rfl, RgOk.of_le (by omega) (by omega) (by omega) (by omega), fun pq hpq => ?_⟩
  rw [rgV_nat]
  have e2 := exn (o := .lst (nvs (List.range (2 ^ f.marks.length)))) hpq
  refine mk_keepA (C := a_Pack) (fl := ["notchings", "needlings"]) (ws := [.ref pq, .int 0]) rfl fun pk pd hpk hpd => ?_
  have e3 := made_ex (C := a_Pack) (fs := pks pq 0) hpk hpd
  refine ⟨by show 1 ≤ sizeLine; decide, fun wt hwt => ?_⟩
  have e4 := exn (o := .lst [V.ref pk]) hwt
  have eA := ext (ext e2 e3) e4
  have e0 := ext e1 eA
  have nwt : H wt = none := frb (ext (ext e1 e2) e3) hwt
  have npk : H pk = none := frb (ext e1 e2) hpk
  have npq : H pq = none := frb e1 hpq
  obtain ⟨a1, a2, a3, a4⟩ := P1
  have badN : ∀ p ∈ [x, lp, ln, wt], H p = none := fun p hp => by
    simp only [List.mem_cons, List.not_mem_nil, or_false] at hp
    rcases hp with rfl | rfl | rfl | rfl
    · exact nx
    · exact nlp
    · exact nln
    · exact nwt
  have badQ : ∀ {p : Addr}, H1 p = none → p ≠ wt → p ∉ [x, lp, ln, wt] := fun {p} hp hne hm => by
    simp only [List.mem_cons, List.not_mem_nil, or_false] at hm
    rcases hm with rfl | rfl | rfl | h
    · rw [a1] at hp; cases hp
    · rw [a2] at hp; cases hp
    · rw [a3] at hp; cases hp
    · exact hne h
  have pqw : pq ≠ wt := ne_of_none (e3 _ _ upd_same) hwt
  have pkw : pk ≠ wt := ne_of_none made_at hwt
  refine ⟨fun m σ H' => ∃ (s : List (List Nat × Nat)) (us : List V) (pl : Nat) (st : Lay) (u v : Option V), σ = [some (.ref a), some (.ref b), some (.int ((2 ^ f.marks.length : Nat) : Int)), some (.ref x), some (.ref wt), some (.int (pl : Nat)), u, v] ∧ m = ns.length - pl ∧ pl ≤ ns.length ∧ Ex H H' ∧
      H' wt = some (.lst us.reverse) ∧ Al (PackAt H' [x, lp, ln, wt]) s us ∧ us.length ≤ pl + 1 ∧ PartI H' x dx lp ln (2 ^ f.marks.length) st ∧ (∀ y ∈ s, y.1.length ≤ 64 ∧ ∀ n ∈ y.1, n < 2 ^ f.marks.length) ∧ runP f.marks.length s (ns.drop pl) st = R,
    ⟨_, [(List.range (2 ^ f.marks.length), 0)], [.ref pk], 0, lay0, _, _, rfl, rfl, Nat.zero_le _, e0, upd_same,
      ⟨⟨pk, pd, pq, rfl, e4 _ _ made_at, e4 _ _ (e3 _ _ upd_same), badQ hpq pqw, badQ (frb e2 hpk) pkw⟩, trivial⟩, by simp, ⟨eA _ _ a1, eA _ _ a2, eA _ _ a3, a4⟩, fun y hy => by
        rw [List.mem_singleton.mp hy]
        exact ⟨by rw [List.length_range]; exact hN, fun n hn => List.mem_range.mp hn⟩, hR⟩, ?_⟩
  rintro m σ H' ⟨s, us, pl, st, u, v, rfl, rfl, hpl, e, hw, hal, hus, hP, hS, hrun⟩
  have hru : us.reverse.length = us.length := List.length_reverse
  refine ⟨_, rfl, _, _, rfl, .inl ⟨_, SqL.of hw, rfl⟩, _, _, rfl, rfl, _, rfl, ?_⟩
  rw [hru]
  cases s with
  | nil =>
    cases us with
    | cons _ _ => exact hal.elim
    | nil =>
      refine ifF (by show ¬ (0 : Int) < ((0 : Nat) : Int); omega) ?_
      rw [runP] at hrun
      refine ⟨_, rfl, _, rfl, _, _, rfl, .inl ⟨_, SqL.of (e _ _ ha), rfl⟩, _, _, rfl, rfl, _, rfl, ?_⟩
      rw [hln]
      by_cases c : pl < ns.length
      · refine ifT (by omega) ?_
        rw [if_neg (fun z => by have := List.drop_eq_nil_iff.mp z; omega)] at hrun
        exact Rf.go ((qn hrun.symm).ex e) T.x_NotPlan
      · refine ifF (by omega) ?_
        rw [if_pos (List.drop_eq_nil_iff.mpr (by omega))] at hrun
        exact ⟨_, rfl, qs st hrun.symm H' _ e ⟨x, dx, lp, ln, rfl, hP⟩⟩
  | cons y s =>
    cases us with
    | nil => exact hal.elim
    | cons v0 us =>
      obtain ⟨hv0, hal⟩ := hal
      obtain ⟨hS0, hS1⟩ := hS y List.mem_cons_self
      refine ifT (by simp) ⟨fun σ' H2 => _, fun _ _ z => z, ?_⟩
      have hrev : (v0 :: us).reverse = us.reverse ++ [v0] := List.reverse_cons
      rw [hrev] at hw
      refine ⟨_, rfl, .inl ⟨rfl, _, SqL.of hw⟩, wt, _, v0, rfl, rfl, hw, by rw [List.length_append, List.length_singleton, Nat.add_sub_cancel, List.getElem?_concat_length], ?_⟩
      rw [List.dropLast_concat]
      have iw : wt ∈ [x, lp, ln, wt] := by simp
      have bw : But [x, lp, ln, wt] H' (upd H' wt (.lst us.reverse)) := but_u iw
      have eW := but_ex e bw badN
      have hxw : x ≠ wt := ne_of hP.1 hw (by intro z; cases z)
      obtain ⟨r1, r2, r3, r4⟩ := hP
      have hlw : lp ≠ wt := fun z => by
        have h1 := e1
        exact absurd (ne_of_none (ext (ext e2 e3) exr _ _ a2) (z ▸ hwt)) (fun z2 => z2 z)
      have hnw : ln ≠ wt := fun z => absurd (ne_of_none (ext (ext e2 e3) exr _ _ a3) (z ▸ hwt)) (fun z2 => z2 z)
      have hPw : PartI (upd H' wt (.lst us.reverse)) x dx lp ln (2 ^ f.marks.length) st := ⟨(upd_ne hxw).trans r1, (upd_ne hlw).trans r2, (upd_ne hnw).trans r3, r4⟩
      generalize hHw : upd H' wt (.lst us.reverse) = Hw at *
      have hww : Hw wt = some (.lst us.reverse) := by rw [← hHw]; exact upd_same
      have err : PL f.marks.length (ns.drop pl) = none → Rf K mg Hw E (-6) := fun z => (qn (hrun.symm.trans (runP_none z))).ex eW
      refine ⟨_, rfl, _, rfl, _, rfl, _, _, rfl, .inl ⟨_, SqL.of (eW _ _ hb), rfl⟩, a, ns, pl, (f.marks.length : Int), by rw [hlm]; rfl, eW _ _ ha, fun z hz h0 h1 => ?_, fun hbad => ?_⟩
      · have hpl2 : pl < ns.length := (List.getElem?_eq_some_iff.mp hz).1
        have hdr : ns.drop pl = z :: ns.drop (pl + 1) := by
          rw [List.drop_eq_getElem_cons hpl2]
          congr 1
          exact (List.getElem?_eq_some_iff.mp hz).2
        rw [hdr] at hrun err
        refine ⟨_, rfl, rfl, _, rfl, ?_⟩
        by_cases z0 : z = 0
        · subst z0
          refine ifT rfl ?_
          refine ⟨_, rfl, _, rfl, _, rfl, _, rfl, _, _, rfl, rfl, a, ns, pl + 1, 63, rfl, eW _ _ ha, fun z2 hz2 h02 h12 => ?_, fun hbad => ?_⟩
          · have hpl3 : pl + 1 < ns.length := (List.getElem?_eq_some_iff.mp hz2).1
            have hdr2 : ns.drop (pl + 1) = z2 :: ns.drop (pl + 2) := by
              rw [List.drop_eq_getElem_cons hpl3]
              congr 1
              exact (List.getElem?_eq_some_iff.mp hz2).2
            rw [hdr2, runP_pile ⟨h02, h12⟩] at hrun
            refine ⟨x, dx, lp, ln, 2 ^ f.marks.length, st, [x, lp, ln, wt], y, v0, z2.toNat, by rw [Int.toNat_of_nonneg h02]; rfl, hPw, hv0.but bw, by simp, by simp, by simp, hS1, fun H3 b3 hP3 => ?_⟩
            have b3' : But [x, lp, ln, wt] Hw H3 := but_sub b3 fun p hp => by
              simp at hp ⊢
              rcases hp with h | h | h <;> simp [h]
            have eH3 := but_ex eW b3' badN
            refine ⟨_, rfl, _, _, rfl, rfl, ?_⟩
            refine ⟨ns.length - (pl + 2), by omega, s, us, pl + 2, _, _, _, rfl, rfl, by omega, eH3, b3 _ _ (by simp; exact ⟨Ne.symm hxw, Ne.symm hlw, Ne.symm hnw⟩) hww, hal.imp fun _ _ z => (z.but bw).but b3', by simp at hus; omega, hP3, fun y hy => hS y (List.mem_cons_of_mem _ hy), hrun⟩
          · refine err ?_
            rw [PL_zero]
            cases hc : ns.drop (pl + 1) with
            | nil => rfl
            | cons c r =>
              have hc2 : ns[pl + 1]? = some c := drop_head hc
              have := hbad c hc2
              dsimp only
              rw [if_neg (by omega)]
        · have nz : ¬ V.int z = V.int 0 := fun h => z0 (V.int.inj h)
          refine ifF nz ?_
          have hx : 1 ≤ z ∧ z ≤ (f.marks.length : Int) := ⟨by omega, h1⟩
          obtain ⟨S, d⟩ := y
          rw [runP_needle hx] at hrun
          have hbn : ∀ {G : Hp}, Ex Hw G → ∀ p ∈ [x, lp, ln, wt], G p ≠ none := fun {G} eg p hp => by
            simp only [List.mem_cons, List.not_mem_nil, or_false] at hp
            obtain ⟨t1, t2, t3, t4⟩ := hPw
            rcases hp with rfl | rfl | rfl | rfl
            · rw [eg _ _ t1]; simp
            · rw [eg _ _ t2]; simp
            · rw [eg _ _ t3]; simp
            · rw [eg _ _ hww]; simp
          have ez : (z - 1 : Int) = ((z.toNat - 1 : Nat) : Int) := by omega
          refine ⟨_, rfl, .inl ⟨rfl, _, SqL.of hww⟩, _, rfl, _, rfl, _, _, rfl, rfl, [x, lp, ln, wt], (S, d), v0, z.toNat - 1, by rw [← ez]; rfl, hv0.but bw, hS0, hbn exr, fun H3 u3 e3' hp3 => ?_⟩
          refine ⟨wt, _, u3, rfl, rfl, e3' _ _ hww, szs (by simp at hus ⊢; omega), ?_⟩
          have bw2 : But [x, lp, ln, wt] H3 (upd H3 wt (.lst (us.reverse ++ [u3]))) := but_u iw
          have bH : But [x, lp, ln, wt] H' (upd H3 wt (.lst (us.reverse ++ [u3]))) := but_t bw (but_t (but_x e3') bw2)
          refine ⟨_, rfl, .inl ⟨rfl, _, SqL.of upd_same⟩, _, rfl, _, rfl, _, _, rfl, rfl, [x, lp, ln, wt], (S, d), v0, z.toNat - 1, by rw [← ez]; rfl, hv0.but bH, hS0, fun p hp => ?_, fun H4 u4 e4' hp4 => ?_⟩
          · by_cases hpw : p = wt
            · rw [hpw, upd_same]; simp
            · rw [upd_ne hpw]
              exact hbn e3' p hp
          · refine ⟨wt, _, u4, rfl, rfl, e4' _ _ upd_same, szs (by simp at hus ⊢; omega), ?_⟩
            refine ⟨_, rfl, _, _, rfl, rfl, ?_⟩
            have bw3 : But [x, lp, ln, wt] H4 (upd H4 wt (.lst (us.reverse ++ [u3] ++ [u4]))) := but_u iw
            have bL : But [x, lp, ln, wt] (upd H3 wt (.lst (us.reverse ++ [u3]))) (upd H4 wt (.lst (us.reverse ++ [u3] ++ [u4]))) := but_t (but_x e4') bw3
            have bAll := but_t bH bL
            obtain ⟨t1, t2, t3, t4⟩ := hPw
            have hP5 : PartI (upd H4 wt (.lst (us.reverse ++ [u3] ++ [u4]))) x dx lp ln (2 ^ f.marks.length) st := by
              have up : ∀ {p : Addr} {o : HO}, p ≠ wt → Hw p = some o → (upd H4 wt (.lst (us.reverse ++ [u3] ++ [u4]))) p = some o := fun {p o} hne ho => (upd_ne hne).trans (e4' _ _ ((upd_ne hne).trans (e3' _ _ ho)))
              exact ⟨up hxw t1, up hlw t2, up hnw t3, t4⟩
            refine ⟨ns.length - (pl + 1), by omega, (liftedS S (z.toNat - 1), d + 1) :: (fallenS S (z.toNat - 1), d + 1) :: s, u4 :: u3 :: us, pl + 1, st, _, _, rfl, rfl, by omega, but_ex e bAll badN, ?_, ⟨hp4.but bw3, (hp3.but bw2).but bL, hal.imp fun _ _ z => z.but bAll⟩, by simp at hus ⊢; omega, hP5, fun y hy => ?_, hrun⟩
            · rw [upd_same]
              simp
            · rcases List.mem_cons.mp hy with h | hy
              · rw [h]
                exact ⟨Nat.le_trans (List.length_filter_le _ _) hS0, fun n hn => hS1 n (List.mem_filter.mp hn).1⟩
              rcases List.mem_cons.mp hy with h | hy
              · rw [h]
                exact ⟨Nat.le_trans (List.length_filter_le _ _) hS0, fun n hn => hS1 n (List.mem_filter.mp hn).1⟩
              · exact hS y (List.mem_cons_of_mem _ hy)
      · refine err ?_
        cases hc : ns.drop pl with
        | nil => rfl
        | cons c r =>
          have hc2 : ns[pl]? = some c := drop_head hc
          exact PL_bad (hbad c hc2)
end
end N
namespace N
open PySem PySem.Spec PyProof.Rows L2 NX
open Vbenae (File Line Ask Plan)
theorem find_at {p : Nat → Bool} {N i : Nat} (hi : i < N) (h0 : ∀ m, m < i → p m = false) (h1 : p i = true) : (List.range N).find? p = some i := by
  rw [List.find?_range_eq_some]
  exact ⟨h1, List.mem_range.mpr hi, fun j hj => by rw [h0 j hj]; rfl⟩
theorem find_no {p : Nat → Bool} {N : Nat} (h0 : ∀ m, m < N → p m = false) : (List.range N).find? p = none := by
  rw [List.find?_eq_none]
  intro m hm
  rw [h0 m (List.mem_range.mp hm)]
  exact Bool.false_ne_true
theorem find_congr {p p' : Nat → Bool} {N : Nat} (h : ∀ m, m < N → p m = p' m) : (List.range N).find? p = (List.range N).find? p' := by
  cases hf : (List.range N).find? p' with
  | none =>
    rw [List.find?_eq_none] at hf ⊢
    intro m hm
    rw [h m (List.mem_range.mp hm)]
    exact hf m hm
  | some i =>
    rw [List.find?_range_eq_some] at hf
    obtain ⟨h1, h2, h3⟩ := hf
    have hi := List.mem_range.mp h2
    refine find_at hi (fun m hm => ?_) (by rw [h i hi]; exact h1)
    rw [h m (by omega)]
    have := h3 m hm
    simpa using this
def optV (x : Option Nat) : V := match x with
  | none => .non
  | some n => .int (n : Nat)
section
variable {P : Program} {w : World} {K : PySem.W.Frag} {mg : Str → Option Value} {base : Heap}
def sp_plan_cost : Sp := fun vs H Q _ => ∃ v st a f, vs = [v, .ref a] ∧ PartingAt H v (2 ^ f.marks.length) st ∧ FileAt H a f ∧ Wf f ∧ ∀ H', Ex H H' → Q (.int (((f.cards.map fun x => x.count * st.h x.notching).foldl (fun a b => a + b) 0 : Nat) : Int)) H'
theorem sc_plan_cost : FnScope ["parting", "card_file", "count", "notching"] ["parting", "card_file"] (defScope s_plan_cost) := C8.fnScope_by (by decide +kernel)
theorem c_plan_cost (T : Tx K mg) : Cal P w K mg base CX0 1 "plan_cost" a_plan_cost sp_plan_cost := by
  obtain ⟨fd, F⟩ := T.d_plan_cost
  refine ⟨⟨fd, ["parting", "card_file"], F.ok sc_plan_cost (fun vs H Q E h => by obtain ⟨v, st, a, f, rfl, _⟩ := h; rfl) (fun cdv A outer s H vs Q E hr h => ⟨_, pss_one (ps_ret (pe_callB (cr_sum rfl) rfl T.f_sum (by decide +kernel) (by exact (pa_cons (by exact (pe_lc (own := [("count", 2), ("notching", 3)]) (g := gTup K 2 (gCons (gName 2) (gCons (gName 3) (gNil)))) rfl sc_plan_cost.nd (pi_list (pe_fld (pv 1) rfl)) (blkOk_by (own := [("count", 2), ("notching", 3)]) (N := ["parting", "card_file", "count", "notching"]) (sc := defScope s_plan_cost) (by decide +kernel)) (fun _ _ _ _ _ => by exact (pg_t2 (i1 := 2) (i2 := 3) rfl sc_plan_cost.nd rfl rfl rfl rfl)) (fun _ _ _ _ _ => by exact pts_nil) (fun _ _ _ _ _ => by exact (pe_op op_mul (pv 2) (pe_ix (ix_listK (K := K) rfl) (pe_fldK (K := K) rfl (pv 0) rfl) (pv 3) (fun _ _ => rfl)))))) pa_nil)))), ?_⟩), F.binds fun _ _ _ _ _ _ us hl => match us, hl with | [_, _], _ => rfl⟩, T.g_plan_cost, F.kp⟩
  obtain ⟨v, st, a, f, rfl, ⟨x, xd, lp, ln, rfl, r1, r2, r3, r4⟩, hf, wf, q⟩ := h
  obtain ⟨dx, m, l, qq, ys, zs, h1, h2, h3, h4, h5, h6⟩ := id hf
  have hl := h4.len
  have hz := wf.cards
  refine ⟨_, rfl, a, _, dx, _, _, rfl, h1, T.cl_CardFile, T.na_CardFile_lines, rfl, l, rfl, ⟨_, SqL.of h3⟩, fun D hD => ?_⟩
  refine lc_map (walk_list (K := K) (a := l) (xs := ys)) (fun i => f.cards[i]?.elim .non fun x => .int ((x.count * st.h x.notching : Nat) : Int)) (by omega) hD (fun H2 e2 => SqL.of (e2 _ _ h3)) (fun i u H2 H' C hi e2 y hC => ?_) (fun H2 e2 h2' => ?_)
  · obtain ⟨rfl, hx⟩ := y
    obtain ⟨z, hz2, t, rfl, ht⟩ := h4.get' hx
    have hb := (wf.line z (List.mem_of_getElem? hz2)).2
    refine ⟨t, _, rfl, SqT.of (e2 _ _ ht), rfl, _, _, rfl, _, _, rfl, rfl, rfl, _, rfl, _, rfl, x, _, xd, _, _, rfl, e2 _ _ r1, T.cl_Parting, T.na_Parting_needlings, rfl, _, rfl, _, _, _, _, rfl, rfl, SqL.of (e2 _ _ r3), atI_nat (nvs_at (tab_at hb)), _, _, rfl, rfl, .inl ⟨by omega, by have := (wf.line z (List.mem_of_getElem? hz2)).1; omega⟩, ?_⟩
    have := hC _ exr
    rw [hz2] at this
    refine qi (Q := C) ?_ this
    rw [Int.natCast_mul]
  · have e : (List.range ys.length).map (fun i => f.cards[i]?.elim V.non fun x => V.int ((x.count * st.h x.notching : Nat) : Int)) = ((f.cards.map fun x => x.count * st.h x.notching).map fun (n : Nat) => (n : Int)).map V.int := by
      rw [← hl, List.map_map, List.map_map]
      exact range_map f.cards (fun x => V.int ((x.count * st.h x.notching : Nat) : Int)) _
    rw [e] at h2'
    refine ⟨_, _, rfl, SqL.of h2', ?_⟩
    refine qi ?_ (q _ e2)
    exact sum_ints _
def sp_first_misplaced : Sp := fun vs H Q _ => ∃ v st N b g, vs = [v, .ref b] ∧ PartingAt H v N st ∧ H b = some (.lst (nvs (tab N g))) ∧ ∀ H', Ex H H' → Q (optV ((List.range N).find? fun n => st.g n != g n)) H'
theorem sc_first_misplaced : FnScope ["parting", "piles", "notching", "pile"] ["parting", "piles"] (defScope s_first_misplaced) := C8.fnScope_by (by decide +kernel)
theorem c_first_misplaced (T : Tx K mg) : Cal P w K mg base CX0 1 "first_misplaced" a_first_misplaced sp_first_misplaced := by
  obtain ⟨fd, F⟩ := T.d_first_misplaced
  refine ⟨⟨fd, ["parting", "piles"], F.ok sc_first_misplaced (fun vs H Q E h => by obtain ⟨v, st, N, b, g, rfl, _⟩ := h; rfl) (fun cdv A outer s H vs Q E hr h => ⟨_, pss_cons (ps_for PassesOwn.never rfl (pi_enum rfl T.f_enumerate (pa_cons (pv 1) pa_nil)) (pg_tup rfl (pgs_cons (pg_name (i := 2) sc_first_misplaced.nd rfl (Or.inl rfl)) (pgs_cons (pg_name (i := 3) sc_first_misplaced.nd rfl (Or.inl rfl)) pgs_nil)))
    (pss_one (ps_if (pt_cmpR op_ne (pe_ix ix_list (pe_fld (pv 0) rfl) (pv 2) (fun _ _ => rfl)) (pv 3) (nomark _)) (pss_one (ps_ret (pv 2))) pss_nil)))
    (pss_one (ps_ret pe_non)), ?_⟩), F.binds fun _ _ _ _ _ _ us hl => match us, hl with | [_, _], _ => rfl⟩, T.g_first_misplaced, F.kp⟩
  obtain ⟨v, st, N, b, g, rfl, ⟨x, xd, lp, ln, rfl, r1, r2, r3, r4⟩, hb, q⟩ := h
  have hl : (nvs (tab N g)).length = N := by rw [nvs_len, tab_len]
  refine ⟨_, rfl, b, _, rfl, SqL.of hb, ?_⟩
  refine for_it (walk_enum (K := K) (a := b) (xs := nvs (tab N g))) (fun i σ H' => ∃ u v, σ = [some (.ref x), some (.ref b), u, v] ∧ Ex H H' ∧ ∀ m, m < i → (st.g m != g m) = false)
    ⟨_, _, rfl, exr, fun m h => by omega⟩ (fun i σ H' _ ⟨_, _, _, e, _⟩ => SqL.of (e _ _ hb)) ?_ ?_
  · rintro i y σ H' H2 hi ⟨u, v, rfl, e, hno⟩ ⟨t, u1, v1, rfl, ht, rfl, hu, hv⟩
    cases hu
    rw [hl] at hi
    cases (nvs_at (tab_at hi)).symm.trans hv
    have et := exn (o := .tup [.int (i : Nat), .int ((g i : Nat) : Int)]) ht
    have e2 := ext e et
    refine ⟨t, _, rfl, SqT.of upd_same, rfl, _, _, rfl, _, _, rfl, rfl, ?_⟩
    refine ⟨_, rfl, x, _, xd, _, _, rfl, e2 _ _ r1, T.cl_Parting, T.na_Parting_piles, rfl, _, rfl, _, _, _, _, rfl, rfl, SqL.of (e2 _ _ r2), atI_nat (nvs_at (tab_at hi)), _, rfl, rfl, _, rfl, ?_⟩
    by_cases c : st.g i = g i
    · refine ifNF (by rw [c]) ⟨_, _, rfl, e2, fun m hm => ?_⟩
      by_cases hm2 : m = i
      · rw [hm2, c]; simp
      · exact hno m (by omega)
    · refine ifNT (fun z => c (by have := V.int.inj z; omega)) ⟨_, rfl, ?_⟩
      have hf : (List.range N).find? (fun n => st.g n != g n) = some i := find_at hi hno (by simpa using c)
      have := q _ e2
      rw [hf] at this
      exact this
  · rintro σ H' ⟨u, v, rfl, e, hno⟩
    rw [hl] at hno
    have := q H' e
    rw [find_no hno] at this
    exact this
end
end N
namespace N
open PySem PySem.Spec PyProof.Rows L2 NX
open Vbenae (File Line Ask Plan)
theorem fold_bits (d : Nat → Nat) : ∀ (k a : Nat), (List.range k).foldr (fun m n => d m + 2 * n) a = ((List.range k).map fun m => d m * 2 ^ m).sum + a * 2 ^ k
  | 0, a => by simp
  | k + 1, a => by
    rw [List.range_succ, List.foldr_append, List.map_append, List.sum_append]
    show (List.range k).foldr _ (d k + 2 * a) = _
    rw [fold_bits d k, Nat.pow_succ, Nat.add_mul]
    simp
    rw [show 2 * a * 2 ^ k = a * (2 ^ k * 2) by rw [Nat.mul_comm 2 a, Nat.mul_assoc, Nat.mul_comm 2]]
    omega
theorem fold_lt (d : Nat → Nat) (hd : ∀ m, d m < 2) : ∀ (k a : Nat), (List.range k).foldr (fun m n => d m + 2 * n) a < 2 ^ k * (a + 1)
  | 0, a => by simp
  | k + 1, a => by
    rw [List.range_succ, List.foldr_append]
    show (List.range k).foldr _ (d k + 2 * a) < _
    refine Nat.lt_of_lt_of_le (fold_lt d hd k _) ?_
    rw [Nat.pow_succ, Nat.mul_assoc]
    refine Nat.mul_le_mul_left _ ?_
    have := hd k
    omega
theorem only_lt (k c : Nat) : Vbenae.only k c < 2 ^ k := by
  have := fold_lt (fun m => Vbenae.digit c m % 2) (fun m => Nat.mod_lt _ (by decide)) k 0
  rw [Nat.zero_add, Nat.mul_one] at this
  exact this
theorem only_sum {k c : Nat} (h : Vbenae.open_ k c = []) : Vbenae.only k c = ((List.range k).map fun m => Vbenae.digit c m * 2 ^ m).sum := by
  have e := fold_bits (fun m => Vbenae.digit c m % 2) k 0
  rw [Nat.zero_mul, Nat.add_zero] at e
  refine Eq.trans (show Vbenae.only k c = _ from e) ?_
  congr 1
  apply List.map_congr_left
  intro m hm
  have hn : ¬ Vbenae.digit c m = 2 := fun z => by
    have : m ∈ Vbenae.open_ k c := List.mem_filter.mpr ⟨hm, by rw [z]; rfl⟩
    rw [h] at this
    simp at this
  have hl : Vbenae.digit c m < 3 := Nat.mod_lt _ (by decide)
  show Vbenae.digit c m % 2 * 2 ^ m = _
  rw [Nat.mod_eq_of_lt (by omega)]
section
variable {P : Program} {w : World} {K : PySem.W.Frag} {mg : Str → Option Value} {base : Heap}
def sp_count_cubes : Sp := fun vs H Q _ => ∃ (a : Addr) (xs : List V), vs = [.ref a] ∧ H a = some (.lst xs) ∧ xs.length ≤ 6 ∧ Q (.int ((3 ^ xs.length : Nat) : Int)) H
theorem sc_count_cubes : FnScope ["marks"] ["marks"] (defScope s_count_cubes) := C8.fnScope_by (by decide +kernel)
theorem c_count_cubes (T : Tx K mg) : Cal P w K mg base CX0 1 "count_cubes" a_count_cubes sp_count_cubes := by
  obtain ⟨fd, F⟩ := T.d_count_cubes
  refine ⟨⟨fd, ["marks"], F.ok sc_count_cubes (fun vs H Q E h => by obtain ⟨a, xs, rfl, _⟩ := h; rfl) (fun cdv A outer s H vs Q E hr h => ⟨_, pss_one (ps_ret (pe_ix ix_tup (C8.pe_gc rfl T.k_THREES) (pe_callB call_len rfl T.f_len PySem.boot_len (pa_cons (pv 0) pa_nil)) (fun _ _ => rfl))), ?_⟩), F.binds fun _ _ _ _ _ _ us hl => match us, hl with | [_], _ => rfl⟩, T.g_count_cubes, F.kp⟩
  obtain ⟨a, xs, rfl, hx, hl, q⟩ := h
  exact ⟨_, rfl, _, xs.length, rfl, .inl ⟨_, SqL.of hx, rfl⟩, _, _, _, _, rfl, rfl, T.t_THREES _, threes_at (by omega), q⟩
def sp_notching_of : Sp := fun vs H Q _ => ∃ (c k : Nat), vs = [.int c, .int k] ∧ k ≤ 6 ∧ Vbenae.open_ k c = [] ∧ ∀ H', Ex H H' → Q (.int (Vbenae.only k c : Nat)) H'
theorem sc_notching_of : FnScope ["cube", "mark_count", "mark"] ["cube", "mark_count"] (defScope s_notching_of) := C8.fnScope_by (by decide +kernel)
theorem c_notching_of (T : Tx K mg) : Cal P w K mg base CX0 2 "notching_of" a_notching_of sp_notching_of := by
  obtain ⟨fd, F⟩ := T.d_notching_of
  refine ⟨⟨fd, ["cube", "mark_count"], F.ok sc_notching_of (fun vs H Q E h => by obtain ⟨c, k, rfl, _⟩ := h; rfl) (fun cdv A outer s H vs Q E hr h => ⟨_, pss_one (ps_ret (pe_callB (cr_sum rfl) rfl T.f_sum (by decide +kernel) (by exact (pa_cons (by exact (pe_lc (own := [("mark", 2)]) (g := gName 2) rfl sc_notching_of.nd (pi_range1 rfl T.f_range (pa_cons (pv 1) pa_nil)) (blkOk_by (own := [("mark", 2)]) (N := ["cube", "mark_count", "mark"]) (sc := defScope s_notching_of) (by decide +kernel)) (fun _ _ _ _ _ => by exact (pg_name (i := 2) sc_notching_of.nd rfl (Or.inl rfl))) (fun _ _ _ _ _ => by exact pts_nil) (fun _ _ _ _ _ => by exact (pe_op op_shl (pe_f (c_told_of T) hr (by decide) rfl (pa_cons (pv 0) (pa_cons (pv 2) pa_nil))) (pv 2))))) pa_nil)))), ?_⟩), F.binds fun _ _ _ _ _ _ us hl => match us, hl with | [_, _], _ => rfl⟩, T.g_notching_of, F.kp⟩
  obtain ⟨c, k, rfl, hk, ho, q⟩ := h
  refine ⟨_, rfl, (k : Int), rfl, by omega, by omega, fun D hD => ?_⟩
  rw [Int.toNat_natCast]
  refine lc_map (walk_range (lo := 0) (n := k)) (fun i => .int ((Vbenae.digit c i * 2 ^ i : Nat) : Int)) (by omega) hD (fun _ _ => trivial) (fun i x H2 H' C hi e2 y hC => ?_) (fun H2 e2 h2 => ?_)
  · obtain ⟨rfl, rfl⟩ := y
    have hdl : Vbenae.digit c i < 3 := Nat.mod_lt _ (by decide)
    refine ⟨rfl, _, rfl, _, rfl, c, i, ?_, by omega, _, rfl, _, _, rfl, rfl, ⟨by omega, by omega, by omega⟩, ?_⟩
    · show [V.int c, V.int (0 + (i : Int))] = [V.int c, V.int i]
      rw [Int.zero_add]
    · refine qi (Q := C) ?_ (hC _ exr)
      rw [Int.zero_add, Int.toNat_natCast, Int.natCast_mul, Int.natCast_pow] <;> rfl
  · have e : (List.range k).map (fun i => V.int ((Vbenae.digit c i * 2 ^ i : Nat) : Int)) = ((((List.range k).map fun m => Vbenae.digit c m * 2 ^ m)).map fun (n : Nat) => (n : Int)).map V.int := by
      rw [List.map_map, List.map_map] <;> rfl
    rw [e] at h2
    refine ⟨_, _, rfl, SqL.of h2, ?_⟩
    refine qi ?_ (q _ e2)
    rw [sum_ints, foldl_add, Nat.zero_add, only_sum ho]
end
end N
namespace N
open PySem PySem.Spec PyProof.Rows L2 NX
open Vbenae (File Line Ask Plan)
abbrev Ent := Vbenae.Entry
/-! ### entries of the table -/
def joinE (E : Nat → Ent) (c : Nat) (os : List Nat) : Ent :=
  let m := os.headD 0
  let a := E (Vbenae.lower c m)
  let b := E (Vbenae.upper c m)
  let k := a.cards + b.cards
  if a.answer.isSome = true ∧ a.answer = b.answer then { cards := k, answer := a.answer, least := 0, mark := 0, deep := 0 }
  else
    let costs := os.map fun i => (k + (E (Vbenae.lower c i)).least + (E (Vbenae.upper c i)).least, i)
    let deeps := os.map fun i => (1 + max (E (Vbenae.lower c i)).deep (E (Vbenae.upper c i)).deep, i)
    { cards := k, answer := none, least := (Vbenae.firstLeast costs).1, mark := (Vbenae.firstLeast costs).2, deep := (Vbenae.firstLeast deeps).1 }
def entryA (k : Nat) (cs : List Line) (as : List Ask) (E : Nat → Ent) (c : Nat) : Ent := if Vbenae.open_ k c = [] then { cards := cardsIn cs (Vbenae.only k c), answer := some (ansOf as (Vbenae.only k c)), least := 0, mark := 0, deep := 0 } else joinE E c (Vbenae.open_ k c)
theorem entry_A (f : File) (qs : List Nat) (t : Array Ent) (c : Nat) : Vbenae.entryOf f qs t c = entryA f.marks.length f.cards (qs.map (Vbenae.askAt f)) (Vbenae.entryAt t) c := by
  unfold Vbenae.entryOf entryA
  show (match Vbenae.open_ f.marks.length c with | [] => _ | m :: r => _) = _
  cases h : Vbenae.open_ f.marks.length c with
  | nil =>
    rw [if_pos rfl]
    dsimp only
    rw [answers_ans] <;> rfl
  | cons m r => rw [if_neg (by simp)] <;> rfl
theorem join_congr {E E' : Nat → Ent} {c : Nat} {os : List Nat} (hne : os ≠ []) (h : ∀ m ∈ os, E (Vbenae.lower c m) = E' (Vbenae.lower c m) ∧ E (Vbenae.upper c m) = E' (Vbenae.upper c m)) : joinE E c os = joinE E' c os := by
  cases os with
  | nil => exact absurd rfl hne
  | cons m r =>
    obtain ⟨h1, h2⟩ := h m List.mem_cons_self
    unfold joinE
    dsimp only [List.headD_cons]
    have e1 : ((m :: r).map fun i => ((E (Vbenae.lower c m)).cards + (E (Vbenae.upper c m)).cards + (E (Vbenae.lower c i)).least + (E (Vbenae.upper c i)).least, i)) = ((m :: r).map fun i => ((E' (Vbenae.lower c m)).cards + (E' (Vbenae.upper c m)).cards + (E' (Vbenae.lower c i)).least + (E' (Vbenae.upper c i)).least, i)) := by
      apply List.map_congr_left
      intro i hi
      obtain ⟨g1, g2⟩ := h i hi
      rw [h1, h2, g1, g2]
    have e2 : ((m :: r).map fun i => (1 + max (E (Vbenae.lower c i)).deep (E (Vbenae.upper c i)).deep, i)) = ((m :: r).map fun i => (1 + max (E' (Vbenae.lower c i)).deep (E' (Vbenae.upper c i)).deep, i)) := by
      apply List.map_congr_left
      intro i hi
      obtain ⟨g1, g2⟩ := h i hi
      rw [g1, g2]
    rw [e1, e2, h1, h2]
theorem open_in {k c m : Nat} (h : m ∈ Vbenae.open_ k c) : m < k ∧ Vbenae.digit c m = 2 := by
  obtain ⟨h1, h2⟩ := List.mem_filter.mp h
  exact ⟨List.mem_range.mp h1, by simpa using h2⟩
theorem open_lt {k c m : Nat} (h : m ∈ Vbenae.open_ k c) : Vbenae.lower c m < c ∧ Vbenae.upper c m < c ∧ 2 * 3 ^ m ≤ c := by
  have h2 := digit_two (open_in h).2
  have hp : 0 < 3 ^ m := Nat.pow_pos (by decide)
  unfold Vbenae.lower Vbenae.upper
  omega
theorem entryA_congr {k : Nat} {cs : List Line} {as : List Ask} {E E' : Nat → Ent} {c : Nat} (h : ∀ d, d < c → E d = E' d) : entryA k cs as E c = entryA k cs as E' c := by
  unfold entryA
  by_cases ho : Vbenae.open_ k c = []
  · rw [if_pos ho, if_pos ho]
  · rw [if_neg ho, if_neg ho]
    exact join_congr ho fun m hm => ⟨h _ (open_lt hm).1, h _ (open_lt hm).2.1⟩
/-! ### the table of the specification -/
section
variable (f : File) (qs : List Nat)
def tabN (n : Nat) : Array Ent := (List.range n).foldl (fun t c => t.push (Vbenae.entryOf f qs t c)) #[]
theorem tabN_succ (n : Nat) : tabN f qs (n + 1) = (tabN f qs n).push (Vbenae.entryOf f qs (tabN f qs n) n) := by
  unfold tabN
  rw [List.range_succ, List.foldl_append] <;> rfl
theorem tabN_size : ∀ n, (tabN f qs n).size = n
  | 0 => rfl
  | n + 1 => by rw [tabN_succ, Array.size_push, tabN_size n]
theorem at_push {t : Array Ent} {e : Ent} {c : Nat} (h : c < t.size) : Vbenae.entryAt (t.push e) c = Vbenae.entryAt t c := by
  unfold Vbenae.entryAt
  rw [Array.getD_eq_getD_getElem?, Array.getD_eq_getD_getElem?, Array.getElem?_push_lt h, Array.getElem?_eq_getElem h]
theorem at_last {t : Array Ent} {e : Ent} {c : Nat} (h : c = t.size) : Vbenae.entryAt (t.push e) c = e := by
  subst h
  unfold Vbenae.entryAt
  rw [Array.getD_eq_getD_getElem?, Array.getElem?_push_size] <;> rfl
theorem tabN_at {c n : Nat} (h : c < n) : ∀ d, Vbenae.entryAt (tabN f qs (n + d)) c = Vbenae.entryAt (tabN f qs n) c
  | 0 => rfl
  | d + 1 => by
    rw [← Nat.add_assoc, tabN_succ, at_push (by rw [tabN_size]; omega), tabN_at h d]
/-- an entry of the table -/
def ent (c : Nat) : Ent := Vbenae.entryAt (Vbenae.table f qs) c
theorem ent_eq {c : Nat} (h : c < 3 ^ f.marks.length) : ent f qs c = entryA f.marks.length f.cards (qs.map (Vbenae.askAt f)) (ent f qs) c := by
  have ht : Vbenae.table f qs = tabN f qs (3 ^ f.marks.length) := rfl
  have key : ∀ d n, d < n → n ≤ 3 ^ f.marks.length → Vbenae.entryAt (tabN f qs n) d = ent f qs d := fun d n hd hn => by
    unfold ent
    rw [ht, ← tabN_at f qs hd (3 ^ f.marks.length - n), show n + (3 ^ f.marks.length - n) = 3 ^ f.marks.length by omega]
  rw [← key c (c + 1) (by omega) (by omega), tabN_succ, at_last (by rw [tabN_size]), entry_A]
  exact entryA_congr fun d hd => key d c hd (by omega)
end
/-! ### the first of the least -/
theorem fl_fold : ∀ (r : List (Nat × Nat)) (x : Nat × Nat), ∃ j, (x :: r)[j]? = some (r.foldl (fun a y => if y.1 < a.1 then y else a) x) ∧ (∀ y ∈ x :: r, (r.foldl (fun a y => if y.1 < a.1 then y else a) x).1 ≤ y.1) ∧ ∀ (i : Nat) (y : Nat × Nat), i < j → (x :: r)[i]? = some y → (r.foldl (fun a y => if y.1 < a.1 then y else a) x).1 < y.1
  | [], x => ⟨0, rfl, fun y hy => by rw [List.mem_singleton.mp hy]; exact Nat.le_refl _, fun i y hi => by omega⟩
  | z :: r, x => by
    rw [List.foldl_cons]
    by_cases hz : z.1 < x.1
    · rw [if_pos hz]
      obtain ⟨j, h1, h2, h3⟩ := fl_fold r z
      refine ⟨j + 1, h1, fun y hy => ?_, fun i y hi hy => ?_⟩
      · rcases List.mem_cons.mp hy with h | h
        · rw [h]
          have := h2 z List.mem_cons_self
          omega
        · exact h2 y h
      · cases i with
        | zero =>
          have : x = y := by simpa using hy
          rw [← this]
          have := h2 z List.mem_cons_self
          omega
        | succ i => exact h3 i y (by omega) hy
    · rw [if_neg hz]
      obtain ⟨j, h1, h2, h3⟩ := fl_fold r x
      have hm : (r.foldl (fun a y => if y.1 < a.1 then y else a) x).1 ≤ x.1 := h2 x List.mem_cons_self
      cases j with
      | zero =>
        have hx : x = r.foldl (fun a y => if y.1 < a.1 then y else a) x := by simpa using h1
        refine ⟨0, h1, fun y hy => ?_, fun i y hi => by omega⟩
        rcases List.mem_cons.mp hy with h | h
        · rw [h]; exact hm
        rcases List.mem_cons.mp h with h | h
        · rw [h]; omega
        · exact h2 y (List.mem_cons_of_mem _ h)
      | succ j =>
        have h0 : (r.foldl (fun a y => if y.1 < a.1 then y else a) x).1 < x.1 := h3 0 x (by omega) rfl
        refine ⟨j + 2, h1, fun y hy => ?_, fun i y hi hy => ?_⟩
        · rcases List.mem_cons.mp hy with h | h
          · rw [h]; exact hm
          rcases List.mem_cons.mp h with h | h
          · rw [h]; omega
          · exact h2 y (List.mem_cons_of_mem _ h)
        · match i with
          | 0 =>
            have : x = y := by simpa using hy
            rw [← this]; exact h0
          | 1 =>
            have : z = y := by simpa using hy
            rw [← this]; omega
          | i + 2 => exact h3 (i + 1) y (by omega) hy
/-- of marks and what they cost -/
theorem fl_spec (os : List Nat) (g : Nat → Nat) (hne : os ≠ []) : ∃ j m : Nat, os[j]? = some m ∧ Vbenae.firstLeast (os.map fun i => (g i, i)) = (g m, m) ∧ (∀ i ∈ os, g m ≤ g i) ∧ ∀ i n : Nat, i < j → os[i]? = some n → g m < g n := by
  cases os with
  | nil => exact absurd rfl hne
  | cons x r =>
    obtain ⟨j, h1, h2, h3⟩ := fl_fold (r.map fun i => (g i, i)) (g x, x)
    have hfl : Vbenae.firstLeast ((x :: r).map fun i => (g i, i)) = (r.map fun i => (g i, i)).foldl (fun a y => if y.1 < a.1 then y else a) (g x, x) := rfl
    have hl : ((g x, x) :: r.map fun i => (g i, i)) = (x :: r).map fun i => (g i, i) := rfl
    rw [← hfl] at h1 h2 h3
    rw [hl] at h1 h2 h3
    rw [List.getElem?_map] at h1
    obtain ⟨m, hm, he⟩ := Option.map_eq_some_iff.mp h1
    rw [← he] at h2 h3
    refine ⟨j, m, hm, he.symm, fun i hi => h2 (g i, i) (List.mem_map.mpr ⟨i, hi, rfl⟩), fun i n hi hn => h3 i (g n, n) hi (by rw [List.getElem?_map, hn] <;> rfl)⟩
end N
namespace N
open PySem PySem.Spec PyProof.Rows L2 NX
open Vbenae (File Line Ask Plan)
/-! ### cubes on the heap -/
abbrev cuf (hp : Addr) (cards : Nat) (pile : Option Nat) (cost : Nat) (mark : V) (deep : Nat) : List (Str × V) := [("halves", .ref hp), ("cards", .int (cards : Nat)), ("pile", optV pile), ("cost", .int (cost : Nat)), ("mark", mark), ("depth", .int (deep : Nat))]
def markV (e : Ent) : V := if e.answer.isSome = true then .non else .int (e.mark : Nat)
def CubeAt (H : Hp) (k c : Nat) (e : Ent) (v : V) : Prop := ∃ a dx hp : Addr, v = .ref a ∧ H a = some (.ins a_Cube dx (cuf hp e.cards e.answer e.least (markV e) e.deep)) ∧ HalvesAt H hp k c
def CubeI (H : Hp) (k c : Nat) (e : Ent) (hp : Addr) (v : V) : Prop := ∃ a dx : Addr, v = .ref a ∧ H a = some (.ins a_Cube dx (cuf hp e.cards e.answer e.least (markV e) e.deep)) ∧ HalvesAt H hp k c
theorem CubeI.at {H : Hp} {k c : Nat} {e : Ent} {hp : Addr} {v : V} (h : CubeI H k c e hp v) : CubeAt H k c e v := by
  obtain ⟨a, dx, rfl, h1, h2⟩ := h
  exact ⟨a, dx, hp, rfl, h1, h2⟩
def TableAt (H : Hp) (p : Addr) (k : Nat) (E : Nat → Ent) (n : Nat) : Prop := ∃ zs, H p = some (.lst zs) ∧ zs.length = n ∧ ∀ c v, zs[c]? = some v → CubeAt H k c (E c) v
theorem HalvesAt.ex {H H' : Hp} (x : Ex H H') {a : Addr} {k c : Nat} (h : HalvesAt H a k c) : HalvesAt H' a k c := by
  obtain ⟨ys, h1, h2, h3⟩ := h
  exact ⟨ys, x _ _ h1, h2, fun i m y hm hy => hal_nl (nlx x) (h3 i m y hm hy)⟩
theorem CubeAt.ex {H H' : Hp} (x : Ex H H') {k c : Nat} {e : Ent} {v : V} (h : CubeAt H k c e v) : CubeAt H' k c e v := by
  obtain ⟨a, dx, hp, rfl, h1, h2⟩ := h
  exact ⟨a, dx, hp, rfl, x _ _ h1, h2.ex x⟩
theorem TableAt.ex {H H' : Hp} (x : Ex H H') {p : Addr} {k n : Nat} {E : Nat → Ent} (h : TableAt H p k E n) : TableAt H' p k E n := by
  obtain ⟨zs, h1, h2, h3⟩ := h
  exact ⟨zs, x _ _ h1, h2, fun c v hc => (h3 c v hc).ex x⟩
theorem TableAt.get {H : Hp} {p : Addr} {k n : Nat} {E : Nat → Ent} (h : TableAt H p k E n) {c : Nat} (hc : c < n) : ∃ zs v, H p = some (.lst zs) ∧ zs.length = n ∧ zs[c]? = some v ∧ CubeAt H k c (E c) v := by
  obtain ⟨zs, h1, h2, h3⟩ := h
  have hv : zs[c]? = some zs[c] := List.getElem?_eq_getElem (by omega)
  exact ⟨zs, _, h1, h2, hv, h3 c _ hv⟩
theorem tN {σ : L2.St} {H : Hp} {k : List V → Hp → Prop} (h : k [] H) : tNil σ H k := h
theorem optV_inj {x y : Option Nat} : optV x = optV y ↔ x = y := by
  cases x <;> cases y <;> simp [optV] <;> omega
theorem optV_flat (x : Option Nat) : flatV (optV x) = true := by cases x <;> rfl
section
variable {P : Program} {w : World} {K : PySem.W.Frag} {mg : Str → Option Value} {base : Heap}
def sp_answered_cube : Sp := fun vs H Q _ => ∃ (hp : Addr) (cards : Nat) (pile : Option Nat), vs = [.ref hp, .int cards, optV pile] ∧ ∀ H' x dx, Ex H H' → H x = none → H' x = some (.ins a_Cube dx (cuf hp cards pile 0 .non 0)) → Q (.ref x) H'
theorem sc_answered_cube : FnScope ["halves", "cards", "pile"] ["halves", "cards", "pile"] (defScope s_answered_cube) := C8.fnScope_by (by decide +kernel)
theorem c_answered_cube (T : Tx K mg) : Cal P w K mg base CX0 3 "answered_cube" a_answered_cube sp_answered_cube := by
  obtain ⟨fd, F⟩ := T.d_answered_cube
  refine ⟨⟨fd, ["halves", "cards", "pile"], F.ok sc_answered_cube (fun vs H Q E h => by obtain ⟨hp, cards, pile, rfl, _⟩ := h; rfl) (fun cdv A outer s H vs Q E hr h => ⟨_, pss_one (ps_ret (pe_k (c_Cube_init T) hr (by decide) rfl (pa_cons (pv 0) (pa_cons (pv 1) (pa_cons (pv 2) (pa_cons pe_int (pa_cons pe_non (pa_cons pe_int pa_nil)))))))), ?_⟩), F.binds fun _ _ _ _ _ _ us hl => match us, hl with | [_, _, _], _ => rfl⟩, T.g_answered_cube, F.kp⟩
  obtain ⟨hp, cards, pile, rfl, q⟩ := h
  refine ⟨_, rfl, _, rfl, _, rfl, ?_⟩
  refine mk_keep rfl fun x2 dx2 hx hd => ?_
  exact q _ x2 dx2 (made_ex hx hd) hx made_at
theorem min_of {l : List Nat} {x m : Nat} (hx : x ∈ l) (hx2 : ∀ y ∈ l, x ≤ y) (hm : (m : Int) ∈ l.map fun (n : Nat) => (n : Int)) (hm2 : ∀ y ∈ l.map (fun (n : Nat) => (n : Int)), (m : Int) ≤ y) : m = x := by
  obtain ⟨z, hz, e⟩ := List.mem_map.mp hm
  have h1 := hx2 z hz
  have h2 := hm2 (x : Int) (List.mem_map.mpr ⟨x, hx, rfl⟩)
  omega
theorem rd_min {K : PySem.W.Frag} {H : Hp} {a : Addr} {os : List Nat} {g : Nat → Nat} {Q : VK} (ha : H a = some (.lst (nvs (os.map g)))) (hne : os ≠ []) (q : Q (.int ((Vbenae.firstLeast (os.map fun i => (g i, i))).1 : Nat)) H) : rMin K [.ref a] H Q := by
  obtain ⟨j, m, h1, h2, h3, h4⟩ := fl_spec os g hne
  rw [nvs_map] at ha
  refine ⟨a, _, rfl, SqL.of ha, ?_, fun y hy hy2 => ?_⟩
  · rw [List.length_map, List.length_map]
    exact List.length_pos_iff.mpr hne
  · have hmem : g m ∈ os.map g := List.mem_map.mpr ⟨m, List.mem_of_getElem? h1, rfl⟩
    obtain ⟨z, hz, rfl⟩ := List.mem_map.mp hy
    have : z = g m := min_of hmem (fun u hu => by
      obtain ⟨i, hi, rfl⟩ := List.mem_map.mp hu
      exact h3 i hi) hy hy2
    rw [this]
    rw [h2] at q
    exact q
theorem flat_nvs (l : List Nat) : (nvs l).all flatV = true := List.all_eq_true.mpr fun x hx => by
  obtain ⟨n, _, rfl⟩ := List.mem_map.mp hx
  rfl
def sp_first_least : Sp := fun vs H Q _ => ∃ (hp cl : Addr) (k c : Nat) (g : Nat → Nat), vs = [.ref hp, .ref cl] ∧ HalvesAt H hp k c ∧ H cl = some (.lst (nvs ((Vbenae.open_ k c).map g))) ∧ Vbenae.open_ k c ≠ [] ∧ Q (.int ((Vbenae.firstLeast ((Vbenae.open_ k c).map fun i => (g i, i))).2 : Nat)) H
theorem sc_first_least : FnScope ["halves", "costs"] ["halves", "costs"] (defScope s_first_least) := C8.fnScope_by (by decide +kernel)
theorem c_first_least (T : Tx K mg) : Cal P w K mg base CX0 1 "first_least" a_first_least sp_first_least := by
  obtain ⟨fd, F⟩ := T.d_first_least
  refine ⟨⟨fd, ["halves", "costs"], F.ok sc_first_least (fun vs H Q E h => by obtain ⟨hp, cl, k, c, g, rfl, _⟩ := h; rfl) (fun cdv A outer s H vs Q E hr h => ⟨_, pss_one (ps_ret (pe_ix ix_tup (pe_ix ix_list (pv 0) (pe_bm PySem.F.plainAttrs_list PySem.F.slot_list_index PySem.F.type_list_index mt_index (pv 1) (pa_cons (pe_callB (cr_min rfl) rfl T.f_min (by decide +kernel) (pa_cons (pv 1) pa_nil)) pa_nil)) (fun _ _ => rfl)) pe_int (fun _ _ => rfl))), ?_⟩), F.binds fun _ _ _ _ _ _ us hl => match us, hl with | [_, _], _ => rfl⟩, T.g_first_least, F.kp⟩
  obtain ⟨hp, cl, k, c, g, rfl, ⟨ys, h1, h2, h3⟩, hc, hne, q⟩ := h
  obtain ⟨j, m, f1, f2, f3, f4⟩ := fl_spec _ g hne
  rw [f2] at q
  have hj : j < ys.length := by
    have := (List.getElem?_eq_some_iff.mp f1).1
    omega
  have hy : ys[j]? = some ys[j] := List.getElem?_eq_getElem hj
  obtain ⟨t, ht, ht2⟩ := h3 j m _ f1 hy
  refine ⟨_, rfl, _, rfl, .inl ⟨rfl, _, SqL.of hc⟩, _, rfl, ?_⟩
  refine tN (rd_min hc hne ?_)
  refine ⟨cl, _, _, j, .int (g m : Nat), rfl, rfl, SqL.of hc, rfl, flat_nvs _, nvs_at (by rw [List.getElem?_map, f1] <;> rfl), ?_, fun i z hi hz => ?_, ?_⟩
  · rw [f2]
    show decide ((g m : Int) = (g m : Int)) = true
    exact decide_eq_true rfl
  · rw [List.getElem?_map, List.getElem?_map] at hz
    obtain ⟨z2, hz2, rfl⟩ := Option.map_eq_some_iff.mp hz
    obtain ⟨n, hn, rfl⟩ := Option.map_eq_some_iff.mp hz2
    have := f4 i n hi hn
    rw [f2]
    show decide ((g n : Int) = (g m : Int)) = false
    exact decide_eq_false (by omega)
  · refine ⟨_, _, _, _, rfl, rfl, SqL.of h1, atI_nat hy, ?_⟩
    rw [ht]
    exact ⟨_, _, _, _, rfl, rfl, SqT.of ht2, rfl, q⟩
end
end N
namespace N
open PySem PySem.Spec PyProof.Rows L2 NX
open Vbenae (File Line Ask Plan)
section
variable {P : Program} {w : World} {K : PySem.W.Frag} {mg : Str → Option Value} {base : Heap}
theorem nvs_comp {α : Type} (l : List α) (g : α → Nat) : nvs (l.map g) = l.map fun m => V.int ((g m : Nat) : Int) := List.map_map ..
section
variable {hp : Addr} {cards : Nat} {pile : Option Nat} {cost : Nat} {mark : V} {deep : Nat}
theorem lk_halves : (cuf hp cards pile cost mark deep).lookup ("halves" : Str) = some (.ref hp) := by rfl
theorem lk_cards : (cuf hp cards pile cost mark deep).lookup ("cards" : Str) = some (.int (cards : Nat)) := by rfl
theorem lk_pile : (cuf hp cards pile cost mark deep).lookup ("pile" : Str) = some (optV pile) := by rfl
theorem lk_cost : (cuf hp cards pile cost mark deep).lookup ("cost" : Str) = some (.int (cost : Nat)) := by rfl
theorem lk_mark : (cuf hp cards pile cost mark deep).lookup ("mark" : Str) = some mark := by rfl
theorem lk_depth : (cuf hp cards pile cost mark deep).lookup ("depth" : Str) = some (.int (deep : Nat)) := by rfl
end
theorem open_len (k c : Nat) : (Vbenae.open_ k c).length ≤ k := by
  unfold Vbenae.open_
  exact Nat.le_trans (List.length_filter_le _ _) (by rw [List.length_range]; exact Nat.le_refl _)
theorem pile_test {K : PySem.W.Frag} {σ : L2.St} {H : Hp} {D : Ends} {S1 S2 : TS} {a b ad bd : Addr} {fa fb : List (Str × V)} {x y : Option Nat} (cl : Cls K a_Cube) (na : NoAttr K a_Cube "pile") (h2 : σ[2]? = some (some (.ref a))) (h3 : σ[3]? = some (some (.ref b))) (ha : H a = some (.ins a_Cube ad fa)) (hb : H b = some (.ins a_Cube bd fb))
    (la : fa.lookup ("pile" : Str) = some (optV x)) (lb : fb.lookup ("pile" : Str) = some (optV y)) (q1 : x.isSome = true ∧ x = y → S1 D σ H) (q2 : ¬ (x.isSome = true ∧ x = y) → S2 D σ H) :
    tIfS (tAnd (tTest (tOp (fun x y H Q => y = V.non ∧ Q (V.bl !decide (x = V.non)) H) (tFld K (tVar 2) "pile") (tC .non))) (tTest (tOp rEq (tFld K (tVar 2) "pile") (tFld K (tVar 3) "pile")))) S1 S2 D σ H := by
  refine ⟨_, h2, a, _, ad, _, _, rfl, ha, cl, na, la, rfl, _, rfl, ?_⟩
  cases x with
  | none => exact iteF (iteF (q2 fun z => by cases z.1))
  | some n =>
    refine iteT ⟨_, h2, a, _, ad, _, _, rfl, ha, cl, na, la, _, h3, b, _, bd, _, _, rfl, hb, cl, na, lb, by cases y <;> rfl, _, rfl, ?_⟩
    by_cases e : some n = y
    · exact ifT (by rw [← e]) (q1 ⟨rfl, e⟩)
    · exact ifF (fun z => e (optV_inj.mp z)) (q2 fun z => e z.2)
def sp_joined_cube : Sp := fun vs H Q _ => ∃ (t hp : Addr) (k c n : Nat) (E : Nat → Ent), vs = [.ref t, .ref hp] ∧ TableAt H t k E n ∧ c ≤ n ∧ HalvesAt H hp k c ∧ k ≤ 6 ∧ Vbenae.open_ k c ≠ [] ∧ ∀ H' v, Ex H H' → CubeI H' k c (joinE E c (Vbenae.open_ k c)) hp v → Q v H'
theorem sc_joined_cube : FnScope ["table", "halves", "lifted", "fallen", "cards", "costs", "depths", "mark", "low", "high"] ["table", "halves"] (defScope s_joined_cube) := C8.fnScope_by (by decide +kernel)
theorem c_joined_cube (T : Tx K mg) : Cal P w K mg base CX0 4 "joined_cube" a_joined_cube sp_joined_cube := by
  obtain ⟨fd, F⟩ := T.d_joined_cube
  refine ⟨⟨fd, ["table", "halves"], F.ok sc_joined_cube (fun vs H Q E h => by obtain ⟨t, hp, k, c, n, E, rfl, _⟩ := h; rfl) (fun cdv A outer s H vs Q E hr h => ⟨_, pss_cons (ps_set (i := 2) sc_joined_cube.nd rfl (Or.inl rfl) (pe_ix ix_list (pv 0) (pe_ix ix_tup (pe_ix ix_list (pv 1) pe_int (fun _ _ => rfl)) pe_int (fun _ _ => rfl)) (fun _ _ => rfl)))
    (pss_cons (ps_set (i := 3) sc_joined_cube.nd rfl (Or.inl rfl) (pe_ix ix_list (pv 0) (pe_ix ix_tup (pe_ix ix_list (pv 1) pe_int (fun _ _ => rfl)) pe_int (fun _ _ => rfl)) (fun _ _ => rfl)))
    (pss_cons (ps_set (i := 4) sc_joined_cube.nd rfl (Or.inr rfl) (pe_op op_add (pe_fld (pv 2) rfl) (pe_fld (pv 3) rfl)))
    (pss_cons (ps_if (PW.pt (pw_and (pt_cmpR op_notN (pe_fld (pv 2) rfl) pe_non (nomark _)) (pw_and1 (pt_cmpR op_eq (pe_fld (pv 2) rfl) (pe_fld (pv 3) rfl) (nomark _))))) (pss_one (ps_ret (pe_f (c_answered_cube T) hr (by decide) rfl (pa_cons (pv 1) (pa_cons (pv 4) (pa_cons (pe_fld (pv 2) rfl) pa_nil)))))) pss_nil)
    (pss_cons (ps_setLc (i := 5) (own := [("mark", 7), ("low", 8), ("high", 9)]) (g := gTup K 3 (gCons (gName 7) (gCons (gName 8) (gCons (gName 9) (gNil))))) rfl sc_joined_cube.nd rfl rfl (sw_true rfl rfl rfl (by decide +kernel)) (pi_list (pv 1)) (blkOk_by (own := [("mark", 7), ("low", 8), ("high", 9)]) (N := ["table", "halves", "lifted", "fallen", "cards", "costs", "depths", "mark", "low", "high"]) (sc := defScope s_joined_cube) (by decide +kernel)) (fun _ _ _ _ _ => by exact (pg_t3 (i1 := 7) (i2 := 8) (i3 := 9) rfl sc_joined_cube.nd rfl rfl rfl rfl rfl rfl)) (fun _ _ _ _ _ => by exact pts_nil) (fun _ _ _ _ _ => by exact (pe_op op_add (pe_op op_add (pv 4) (pe_fldK (K := K) rfl (pe_ix (ix_listK (K := K) rfl) (pv 0) (pv 8) (fun _ _ => rfl)) rfl)) (pe_fldK (K := K) rfl (pe_ix (ix_listK (K := K) rfl) (pv 0) (pv 9) (fun _ _ => rfl)) rfl))))
    (pss_cons (ps_setLc (i := 6) (own := [("mark", 7), ("low", 8), ("high", 9)]) (g := gTup K 3 (gCons (gName 7) (gCons (gName 8) (gCons (gName 9) (gNil))))) rfl sc_joined_cube.nd rfl rfl (sw_true rfl rfl rfl (by decide +kernel)) (pi_list (pv 1)) (blkOk_by (own := [("mark", 7), ("low", 8), ("high", 9)]) (N := ["table", "halves", "lifted", "fallen", "cards", "costs", "depths", "mark", "low", "high"]) (sc := defScope s_joined_cube) (by decide +kernel)) (fun _ _ _ _ _ => by exact (pg_t3 (i1 := 7) (i2 := 8) (i3 := 9) rfl sc_joined_cube.nd rfl rfl rfl rfl rfl rfl)) (fun _ _ _ _ _ => by exact pts_nil) (fun _ _ _ _ _ => by exact (pe_op op_add pe_int (pe_callB (call_max2 rfl) rfl T.f_max (by decide +kernel) (pa_cons (pe_fldK (K := K) rfl (pe_ix (ix_listK (K := K) rfl) (pv 0) (pv 8) (fun _ _ => rfl)) rfl) (pa_cons (pe_fldK (K := K) rfl (pe_ix (ix_listK (K := K) rfl) (pv 0) (pv 9) (fun _ _ => rfl)) rfl) pa_nil))))))
    (pss_one (ps_ret (pe_k (c_Cube_init T) hr (by decide) rfl (pa_cons (pv 1) (pa_cons (pv 4) (pa_cons pe_non (pa_cons (pe_callB (cr_min rfl) rfl T.f_min (by decide +kernel) (pa_cons (pv 5) pa_nil)) (pa_cons (pe_f (c_first_least T) hr (by decide) rfl (pa_cons (pv 1) (pa_cons (pv 5) pa_nil))) (pa_cons (pe_callB (cr_min rfl) rfl T.f_min (by decide +kernel) (pa_cons (pv 6) pa_nil)) pa_nil)))))))))))))), ?_⟩), F.binds fun _ _ _ _ _ _ us hl => match us, hl with | [_, _], _ => rfl⟩, T.g_joined_cube, F.kp⟩
  obtain ⟨t, hp, k, c, n, E, rfl, ⟨zs, t1, t2, t3⟩, hcn, hh, hk, hne, q⟩ := h
  obtain ⟨ys, h1, h2, h3⟩ := id hh
  have hol := open_len k c
  have cg : ∀ d, d < n → ∃ v, zs[d]? = some v ∧ CubeAt H k d (E d) v := fun d hd => by
    have hv : zs[d]? = some zs[d] := List.getElem?_eq_getElem (by omega)
    exact ⟨_, hv, t3 d _ hv⟩
  obtain ⟨m0, r0, ho⟩ : ∃ m r, Vbenae.open_ k c = m :: r := by
    cases h : Vbenae.open_ k c with
    | nil => exact absurd h hne
    | cons m r => exact ⟨m, r, rfl⟩
  have hm0 : m0 ∈ Vbenae.open_ k c := by rw [ho]; exact List.mem_cons_self
  obtain ⟨l1, l2, l3⟩ := open_lt hm0
  obtain ⟨y0, hy0⟩ : ∃ y, ys[0]? = some y := ⟨_, List.getElem?_eq_getElem (by rw [h2, ho]; simp)⟩
  obtain ⟨ty, rfl, hty⟩ := h3 0 m0 y0 (by rw [ho] <;> rfl) hy0
  obtain ⟨va, gva, a, ad, ah, rfl, ga1, ga2⟩ := cg (Vbenae.lower c m0) (by omega)
  obtain ⟨vb, gvb, b, bd, bh, rfl, gb1, gb2⟩ := cg (Vbenae.upper c m0) (by omega)
  refine ⟨_, rfl, _, rfl, _, _, _, _, rfl, rfl, SqL.of h1, atI_nat (j := 0) hy0, _, _, _, _, rfl, rfl, SqT.of hty, rfl, _, _, _, _, rfl, rfl, SqL.of t1, atI_nat gva, ?_⟩
  refine ⟨_, rfl, _, rfl, _, _, _, _, rfl, rfl, SqL.of h1, atI_nat (j := 0) hy0, _, _, _, _, rfl, rfl, SqT.of hty, rfl, _, _, _, _, rfl, rfl, SqL.of t1, atI_nat gvb, ?_⟩
  refine ⟨_, rfl, a, _, ad, _, _, rfl, ga1, T.cl_Cube, T.na_Cube_cards, lk_cards, _, rfl, b, _, bd, _, _, rfl, gb1, T.cl_Cube, T.na_Cube_cards, lk_cards, _, _, rfl, rfl, ?_⟩
  refine pile_test (x := (E (Vbenae.lower c m0)).answer) (y := (E (Vbenae.upper c m0)).answer) T.cl_Cube T.na_Cube_pile rfl rfl ga1 gb1 lk_pile lk_pile (fun cd => ?_) (fun cd => ?_)
  · refine ⟨_, rfl, _, rfl, _, rfl, a, _, ad, _, _, rfl, ga1, T.cl_Cube, T.na_Cube_pile, lk_pile, hp, (E (Vbenae.lower c m0)).cards + (E (Vbenae.upper c m0)).cards, (E (Vbenae.lower c m0)).answer, rfl, fun H2 x dx e2 _ hx => ?_⟩
    refine q H2 _ e2 ⟨x, dx, rfl, ?_, hh.ex e2⟩
    rw [hx]
    unfold joinE
    rw [ho]
    dsimp only [List.headD_cons]
    rw [if_pos cd]
    unfold markV
    dsimp only
    rw [if_pos cd.1]
  · have hys : ys.length < 1000000 := by omega
    refine ⟨_, rfl, hp, rfl, ⟨_, SqL.of h1⟩, fun D hD => ?_⟩
    refine lc_map (walk_list (K := K) (a := hp) (xs := ys)) (fun i => (Vbenae.open_ k c)[i]?.elim .non fun m => .int (((E (Vbenae.lower c m0)).cards + (E (Vbenae.upper c m0)).cards + (E (Vbenae.lower c m)).least + (E (Vbenae.upper c m)).least : Nat) : Int)) hys hD (fun H2 e2 => SqL.of (e2 _ _ h1)) (fun i u H2 H' C hi e2 y hC => ?_) (fun H2 e2 h2' => ?_)
    · obtain ⟨rfl, hx⟩ := y
      have hom : (Vbenae.open_ k c)[i]? = some (Vbenae.open_ k c)[i] := List.getElem?_eq_getElem (by omega)
      generalize (Vbenae.open_ k c)[i] = m at hom
      obtain ⟨tu, rfl, htu⟩ := h3 i m u hom hx
      obtain ⟨n1, n2, _⟩ := open_lt (List.mem_of_getElem? hom)
      obtain ⟨_, gu, ua, ud, uh, rfl, u1, u2⟩ := cg (Vbenae.lower c m) (by omega)
      obtain ⟨_, gw, wa, wd, wh, rfl, w1, w2⟩ := cg (Vbenae.upper c m) (by omega)
      refine ⟨tu, _, rfl, SqT.of (e2 _ _ htu), rfl, _, _, rfl, _, _, rfl, _, _, rfl, rfl, rfl, ?_⟩
      refine ⟨_, rfl, _, rfl, _, rfl, _, _, _, _, rfl, rfl, SqL.of (e2 _ _ t1), atI_nat gu, ua, _, ud, _, _, rfl, e2 _ _ u1, T.cl_Cube, T.na_Cube_cost, lk_cost, _, _, rfl, rfl, _, rfl, _, rfl, _, _, _, _, rfl, rfl, SqL.of (e2 _ _ t1), atI_nat gw, wa, _, wd, _, _, rfl, e2 _ _ w1, T.cl_Cube, T.na_Cube_cost, lk_cost, _, _, rfl, rfl, ?_⟩
      have := hC _ exr
      rw [hom] at this
      exact this
    · rw [h2, range_map] at h2'
      have hc' : H2 D = some (.lst (nvs ((Vbenae.open_ k c).map fun m => (E (Vbenae.lower c m0)).cards + (E (Vbenae.upper c m0)).cards + (E (Vbenae.lower c m)).least + (E (Vbenae.upper c m)).least))) := by
        rw [h2', nvs_comp]
      refine ⟨_, rfl, hp, rfl, ⟨_, SqL.of (e2 _ _ h1)⟩, fun D2 hD2 => ?_⟩
      refine lc_map (walk_list (K := K) (a := hp) (xs := ys)) (fun i => (Vbenae.open_ k c)[i]?.elim .non fun m => .int ((1 + max (E (Vbenae.lower c m)).deep (E (Vbenae.upper c m)).deep : Nat) : Int)) hys hD2 (fun H3 e3 => SqL.of (e3 _ _ (e2 _ _ h1))) (fun i u H3 H' C hi e3 y hC => ?_) (fun H3 e3 h3' => ?_)
      · obtain ⟨rfl, hx⟩ := y
        have hom : (Vbenae.open_ k c)[i]? = some (Vbenae.open_ k c)[i] := List.getElem?_eq_getElem (by omega)
        generalize (Vbenae.open_ k c)[i] = m at hom
        obtain ⟨tu, rfl, htu⟩ := h3 i m u hom hx
        obtain ⟨n1, n2, _⟩ := open_lt (List.mem_of_getElem? hom)
        obtain ⟨_, gu, ua, ud, uh, rfl, u1, u2⟩ := cg (Vbenae.lower c m) (by omega)
        obtain ⟨_, gw, wa, wd, wh, rfl, w1, w2⟩ := cg (Vbenae.upper c m) (by omega)
        have ee := ext e2 e3
        refine ⟨tu, _, rfl, SqT.of (ee _ _ htu), rfl, _, _, rfl, _, _, rfl, _, _, rfl, rfl, rfl, ?_⟩
        refine ⟨_, rfl, _, rfl, _, _, _, _, rfl, rfl, SqL.of (ee _ _ t1), atI_nat gu, ua, _, ud, _, _, rfl, ee _ _ u1, T.cl_Cube, T.na_Cube_depth, lk_depth, _, rfl, _, rfl, _, _, _, _, rfl, rfl, SqL.of (ee _ _ t1), atI_nat gw, wa, _, wd, _, _, rfl, ee _ _ w1, T.cl_Cube, T.na_Cube_depth, lk_depth, _, _, rfl, _, _, rfl, rfl, ?_⟩
        have := hC _ exr
        rw [hom] at this
        refine qi (Q := C) ?_ this
        split <;> omega
      · rw [h2, range_map] at h3'
        have hd' : H3 D2 = some (.lst (nvs ((Vbenae.open_ k c).map fun m => 1 + max (E (Vbenae.lower c m)).deep (E (Vbenae.upper c m)).deep))) := by
          rw [h3', nvs_comp]
        have ee := ext e2 e3
        refine ⟨_, rfl, _, rfl, _, rfl, tN (rd_min (e3 _ _ hc') hne ?_)⟩
        refine ⟨_, rfl, _, rfl, hp, D, k, c, _, rfl, hh.ex ee, e3 _ _ hc', hne, ?_⟩
        refine ⟨_, rfl, tN (rd_min hd' hne ?_)⟩
        refine mk_keep rfl fun x2 dx2 hx hd => ?_
        have e4 := made_ex (C := a_Cube) (fs := cuf hp ((E (Vbenae.lower c m0)).cards + (E (Vbenae.upper c m0)).cards) none (Vbenae.firstLeast ((Vbenae.open_ k c).map fun m => ((E (Vbenae.lower c m0)).cards + (E (Vbenae.upper c m0)).cards + (E (Vbenae.lower c m)).least + (E (Vbenae.upper c m)).least, m))).1
          (.int ((Vbenae.firstLeast ((Vbenae.open_ k c).map fun m => ((E (Vbenae.lower c m0)).cards + (E (Vbenae.upper c m0)).cards + (E (Vbenae.lower c m)).least + (E (Vbenae.upper c m)).least, m))).2 : Nat)) (Vbenae.firstLeast ((Vbenae.open_ k c).map fun m => (1 + max (E (Vbenae.lower c m)).deep (E (Vbenae.upper c m)).deep, m))).1) hx hd
        refine q _ _ (ext ee e4) ⟨x2, dx2, rfl, ?_, hh.ex (ext ee e4)⟩
        have hj : joinE E c (Vbenae.open_ k c) = { cards := (E (Vbenae.lower c m0)).cards + (E (Vbenae.upper c m0)).cards, answer := none, least := (Vbenae.firstLeast ((Vbenae.open_ k c).map fun m => ((E (Vbenae.lower c m0)).cards + (E (Vbenae.upper c m0)).cards + (E (Vbenae.lower c m)).least + (E (Vbenae.upper c m)).least, m))).1, mark := (Vbenae.firstLeast ((Vbenae.open_ k c).map fun m => ((E (Vbenae.lower c m0)).cards + (E (Vbenae.upper c m0)).cards + (E (Vbenae.lower c m)).least + (E (Vbenae.upper c m)).least, m))).2, deep := (Vbenae.firstLeast ((Vbenae.open_ k c).map fun m => (1 + max (E (Vbenae.lower c m)).deep (E (Vbenae.upper c m)).deep, m))).1 } := by
          rw [ho]
          unfold joinE
          dsimp only [List.headD_cons]
          rw [if_neg cd]
        rw [hj]
        exact made_at
end
end N
namespace N
open PySem PySem.Spec PyProof.Rows L2 NX
open Vbenae (File Line Ask Plan)
section
variable {P : Program} {w : World} {K : PySem.W.Frag} {mg : Str → Option Value} {base : Heap}
theorem pow3 {k : Nat} (h : k ≤ 6) : 0 < 3 ^ k ∧ 3 ^ k ≤ 729 := ⟨Nat.pow_pos (by decide), Nat.pow_le_pow_right (by decide) h⟩
theorem HalvesAt.put {H : Hp} {t hp : Addr} {xs ys : List V} {k c : Nat} (ht : H t = some (.lst xs)) (hne : hp ≠ t) (h : HalvesAt H hp k c) : HalvesAt (upd H t (.lst ys)) hp k c := by
  obtain ⟨zs, h1, h2, h3⟩ := h
  exact ⟨zs, (upd_ne hne).trans h1, h2, fun i m y hm hy => hal_nl (nlu ht) (h3 i m y hm hy)⟩
theorem CubeI.put {H : Hp} {t hp : Addr} {xs ys : List V} {k c : Nat} {e : Ent} {v : V} (ht : H t = some (.lst xs)) (hne : hp ≠ t) (h : CubeI H k c e hp v) : CubeI (upd H t (.lst ys)) k c e hp v := by
  obtain ⟨a, dx, rfl, h1, h2⟩ := h
  exact ⟨a, dx, rfl, nlu ht _ _ (fun _ z => by cases z) h1, h2.put ht hne⟩
theorem CubeI.ex {H H' : Hp} (x : Ex H H') {k c : Nat} {e : Ent} {hp : Addr} {v : V} (h : CubeI H k c e hp v) : CubeI H' k c e hp v := by
  obtain ⟨a, dx, rfl, h1, h2⟩ := h
  exact ⟨a, dx, rfl, x _ _ h1, h2.ex x⟩
def sp_make_table : Sp := fun vs H Q _ => ∃ (a b : Addr) (f : File) (qs : List (List Nat × Ask)) (E : Nat → Ent), vs = [.ref a, .ref b] ∧ FileAt H a f ∧ Wf f ∧ QsAt H b f.marks qs ∧ qs.length ≤ 6 ∧ (∀ c, c < 3 ^ f.marks.length → E c = entryA f.marks.length f.cards (qs.map (·.2)) E c) ∧
  ∀ H' p, Ex H H' → TableAt H' p f.marks.length E (3 ^ f.marks.length) → Q (.ref p) H'
theorem sc_make_table : FnScope ["card_file", "questions", "mark_count", "cards", "piles", "table", "number", "halves", "notching"] ["card_file", "questions"] (defScope s_make_table) := C8.fnScope_by (by decide +kernel)
theorem c_make_table (T : Tx K mg) : Cal P w K mg base CX0 5 "make_table" a_make_table sp_make_table := by
  obtain ⟨fd, F⟩ := T.d_make_table
  refine ⟨⟨fd, ["card_file", "questions"], F.ok sc_make_table (fun vs H Q E h => by obtain ⟨a, b, f, qs, E, rfl, _⟩ := h; rfl) (fun cdv A outer s H vs Q E hr h => ⟨_, pss_cons (ps_set (i := 2) sc_make_table.nd rfl (Or.inl rfl) (pe_callB call_len rfl T.f_len PySem.boot_len (pa_cons (pe_fld (pv 0) rfl) pa_nil)))
    (pss_cons (ps_set (i := 3) sc_make_table.nd rfl (Or.inl rfl) (pe_f (c_cards_by_notching T) hr (by decide) rfl (pa_cons (pv 0) pa_nil)))
    (pss_cons (ps_set (i := 4) sc_make_table.nd rfl (Or.inl rfl) (pe_f (c_right_piles T) hr (by decide) rfl (pa_cons (pv 0) (pa_cons (pv 1) pa_nil))))
    (pss_cons (ps_set (i := 5) sc_make_table.nd rfl (Or.inl rfl) (pe_lst pa_nil))
    (pss_cons (ps_for PassesOwn.never rfl (pi_range1 rfl T.f_range (pa_cons (pe_f (c_count_cubes T) hr (by decide) rfl (pa_cons (pe_fld (pv 0) rfl) pa_nil)) pa_nil)) (pg_name (i := 6) sc_make_table.nd rfl (Or.inl rfl))
    (pss_cons (ps_set (i := 7) sc_make_table.nd rfl (Or.inl rfl) (pe_f (c_halves_of T) hr (by decide) rfl (pa_cons (pv 6) (pa_cons (pv 2) pa_nil))))
    (pss_one (ps_if (pt_cmpR op_eq (pe_callB call_len rfl T.f_len PySem.boot_len (pa_cons (pv 7) pa_nil)) pe_int (nomark _)) (pss_cons (ps_set (i := 8) sc_make_table.nd rfl (Or.inl rfl) (pe_f (c_notching_of T) hr (by decide) rfl (pa_cons (pv 6) (pa_cons (pv 2) pa_nil))))
    (pss_one (ps_expr (pe_bm PySem.F.plainAttrs_list PySem.F.slot_list_append PySem.F.type_list_append mt_append (pv 5) (pa_cons (pe_f (c_answered_cube T) hr (by decide) rfl (pa_cons (pv 7) (pa_cons (pe_ix ix_list (pv 3) (pv 8) (fun _ _ => rfl)) (pa_cons (pe_ix ix_list (pv 4) (pv 8) (fun _ _ => rfl)) pa_nil)))) pa_nil))))) (pss_one (ps_expr (pe_bm PySem.F.plainAttrs_list PySem.F.slot_list_append PySem.F.type_list_append mt_append (pv 5) (pa_cons (pe_f (c_joined_cube T) hr (by decide) rfl (pa_cons (pv 5) (pa_cons (pv 7) pa_nil))) pa_nil))))))))
    (pss_one (ps_ret (pv 5))))))), ?_⟩), F.binds fun _ _ _ _ _ _ us hl => match us, hl with | [_, _], _ => rfl⟩, T.g_make_table, F.kp⟩
  obtain ⟨a, b, f, qs, E, rfl, hf, wf, hq, hq6, hE, q⟩ := h
  obtain ⟨dx, m, l, qq, ys, zs, h1, h2, h3, h4, h5, h6⟩ := id hf
  have hk := wf.marks
  have h3k := pow3 hk
  have hlm : (f.marks.map tx).length = f.marks.length := List.length_map ..
  refine ⟨_, rfl, a, _, dx, _, _, rfl, h1, T.cl_CardFile, T.na_CardFile_marks, rfl, _, _, rfl, .inl ⟨_, SqL.of h2, rfl⟩, ?_⟩
  refine ⟨_, rfl, a, f, rfl, hf, wf, fun H1 cp e1 ncp hcp => ?_⟩
  refine ⟨_, rfl, _, rfl, a, f, b, qs, rfl, hf.ex e1, hk, hq.ex e1, hq6, fun H2 pp e2 npp hpp => ?_⟩
  refine ⟨szl (Nat.zero_le _), fun t ht => ?_⟩
  have e3 := exn (o := .lst []) ht
  have e0 := ext (ext e1 e2) e3
  rw [hlm]
  have nt : H t = none := frb (ext e1 e2) ht
  refine ⟨_, rfl, a, _, dx, _, _, rfl, e0 _ _ h1, T.cl_CardFile, T.na_CardFile_marks, rfl, m, _, rfl, e0 _ _ h2, by rw [hlm]; exact hk, ?_⟩
  rw [hlm]
  refine ⟨_, rfl, by omega, by omega, ?_⟩
  have hctp : cp ≠ t := ne_of_none (e2 _ _ hcp) ht
  have hptp : pp ≠ t := ne_of_none hpp ht
  refine for_it (walk_range (lo := 0) (n := 3 ^ f.marks.length)) (fun i σ H' => ∃ u v z, σ = [some (.ref a), some (.ref b), some (.int ((f.marks.length : Nat) : Int)), some (.ref cp), some (.ref pp), some (.ref t), u, v, z] ∧ Ex H H' ∧ H' cp = some (.lst (nvs (tab (2 ^ f.marks.length) (cardsIn f.cards)))) ∧ H' pp = some (.lst (nvs (tab (2 ^ f.marks.length) (ansOf (qs.map (·.2)))))) ∧
      ∃ zs, H' t = some (.lst zs) ∧ zs.length = i ∧ ∀ c v, zs[c]? = some v → ∃ hp, CubeI H' f.marks.length c (E c) hp v ∧ hp ≠ t)
    ⟨_, _, _, rfl, e0, e3 _ _ (e2 _ _ hcp), e3 _ _ hpp, [], upd_same, rfl, fun c v hc => by simp at hc⟩ (fun _ _ _ _ _ => trivial) ?_ ?_
  · rintro i y σ H3 H' hi ⟨u, v, z, rfl, e, gc, gp, us, ht', hlu, hcu⟩ ⟨rfl, rfl⟩
    have hi9 : i < 729 := by omega
    have step : ∀ {H5 : Hp} {hp : Addr} {v5 : V}, Ex H' H5 → H' hp = none → CubeI H5 f.marks.length i (E i) hp v5 →
        Ex H (upd H5 t (.lst (us ++ [v5]))) ∧ (upd H5 t (.lst (us ++ [v5]))) cp = some (.lst (nvs (tab (2 ^ f.marks.length) (cardsIn f.cards)))) ∧ (upd H5 t (.lst (us ++ [v5]))) pp = some (.lst (nvs (tab (2 ^ f.marks.length) (ansOf (qs.map (·.2)))))) ∧
        ∃ zs, (upd H5 t (.lst (us ++ [v5]))) t = some (.lst zs) ∧ zs.length = i + 1 ∧ ∀ c v, zs[c]? = some v → ∃ hp, CubeI (upd H5 t (.lst (us ++ [v5]))) f.marks.length c (E c) hp v ∧ hp ≠ t := fun {H5 hp v5} e5 nhp hcu5 => by
      have ht5 := e5 _ _ ht'
      refine ⟨exm (ext e e5) nt, (upd_ne hctp).trans (e5 _ _ gc), (upd_ne hptp).trans (e5 _ _ gp), _, upd_same, by rw [List.length_append, hlu]; rfl, fun c v hc => ?_⟩
      by_cases hci : c < us.length
      · rw [List.getElem?_append_left hci] at hc
        obtain ⟨hp2, c2, n2⟩ := hcu c v hc
        exact ⟨hp2, (c2.ex e5).put ht5 n2, n2⟩
      · have hcl : c < (us ++ [v5]).length := (List.getElem?_eq_some_iff.mp hc).1
        rw [List.length_append, List.length_singleton] at hcl
        have hce : c = us.length := by omega
        rw [hce, List.getElem?_concat_length] at hc
        cases hc
        have hne : hp ≠ t := fun zz => by rw [zz, ht'] at nhp; cases nhp
        refine ⟨hp, ?_, hne⟩
        rw [hce, hlu]
        exact hcu5.put ht5 hne
    refine ⟨_, rfl, _, rfl, i, f.marks.length, ?_, hk, fun H4 hp e4 nhp hh => ?_⟩
    · show [V.int (0 + (i : Int)), V.int f.marks.length] = [V.int i, V.int f.marks.length]
      rw [Int.zero_add]
    obtain ⟨hy, hy1, hy2, hy3⟩ := id hh
    refine ⟨_, rfl, _, _, rfl, .inl ⟨_, SqL.of hy1, rfl⟩, rfl, _, rfl, ?_⟩
    have hEi := hE i hi
    unfold entryA at hEi
    by_cases ho : Vbenae.open_ f.marks.length i = []
    · rw [if_pos ho] at hEi
      refine ifT (by rw [hy2, ho]; rfl) ?_
      have hol := only_lt f.marks.length i
      refine ⟨_, rfl, _, rfl, i, f.marks.length, ?_, hk, ho, fun H5 e5 => ?_⟩
      · show [V.int (0 + (i : Int)), V.int f.marks.length] = [V.int i, V.int f.marks.length]
        rw [Int.zero_add]
      have e45 := ext e4 e5
      refine ⟨_, rfl, .inl ⟨rfl, _, SqL.of (e45 _ _ ht')⟩, _, rfl, _, rfl, _, rfl, _, _, _, _, rfl, rfl, SqL.of (e45 _ _ gc), atI_nat (nvs_at (tab_at hol)), _, rfl, _, rfl, _, _, _, _, rfl, rfl, SqL.of (e45 _ _ gp), atI_nat (nvs_at (tab_at hol)), hp, cardsIn f.cards (Vbenae.only f.marks.length i), some (ansOf (qs.map (·.2)) (Vbenae.only f.marks.length i)), rfl, fun H6 x xd e6 _ hx => ?_⟩
      refine ⟨t, _, _, rfl, rfl, e6 _ _ (e45 _ _ ht'), szs (by omega), ?_⟩
      refine ⟨_, _, _, rfl, step (ext e45 e6) nhp ⟨x, xd, rfl, ?_, hh.ex (ext e5 e6)⟩⟩
      rw [hEi, hx] <;> rfl
    · rw [if_neg ho] at hEi
      refine ifF (fun zz => ho (List.length_eq_zero_iff.mp (by have := V.int.inj zz; omega))) ?_
      refine ⟨_, rfl, .inl ⟨rfl, _, SqL.of (e4 _ _ ht')⟩, _, rfl, _, rfl, t, hp, f.marks.length, i, i, E, rfl, ⟨us, e4 _ _ ht', hlu, fun c v hc => ?_⟩, Nat.le_refl _, hh, hk, ho, fun H5 v5 e5 hc5 => ?_⟩
      · obtain ⟨hp2, c2, n2⟩ := hcu c v hc
        exact (c2.ex e4).at
      · refine ⟨t, _, _, rfl, rfl, e5 _ _ (e4 _ _ ht'), szs (by omega), ?_⟩
        rw [← hEi] at hc5
        exact ⟨_, _, _, rfl, step (ext e4 e5) nhp hc5⟩
  · rintro σ H' ⟨u, v, z, rfl, e, gc, gp, us, ht', hlu, hcu⟩
    refine ⟨_, rfl, q H' t e ⟨us, ht', hlu, fun c v hc => ?_⟩⟩
    obtain ⟨hp2, c2, n2⟩ := hcu c v hc
    exact c2.at
end
end N
namespace N
open PySem PySem.Spec PyProof.Rows L2 NX
open Vbenae (File Line Ask Plan)
theorem is_none_of {x : Option Nat} (h : ¬ x.isSome = true) : x = none := by
  cases x with
  | none => rfl
  | some n => exact absurd rfl h
theorem optV_ne {x : Option Nat} (h : x.isSome = true) : ¬ optV x = V.non := by
  cases x with
  | none => cases h
  | some n => exact fun z => by cases z
def evenE (E : Nat → Ent) (k c : Nat) : Nat := (Vbenae.firstLeast ((Vbenae.open_ k c).map fun m => (max (E (Vbenae.lower c m)).cards (E (Vbenae.upper c m)).cards, m))).2
def thumbV (E : Nat → Ent) (k c : Nat) : V := if (E c).answer.isSome = true then .non else .int (evenE E k c : Nat)
section
variable {P : Program} {w : World} {K : PySem.W.Frag} {mg : Str → Option Value} {base : Heap}
def sp_whole_cube : Sp := fun vs H Q _ => ∃ (t : Addr) (k n : Nat) (E : Nat → Ent), vs = [.ref t] ∧ TableAt H t k E n ∧ 0 < n ∧ ∀ v, CubeAt H k (n - 1) (E (n - 1)) v → Q v H
theorem sc_whole_cube : FnScope ["table"] ["table"] (defScope s_whole_cube) := C8.fnScope_by (by decide +kernel)
theorem c_whole_cube (T : Tx K mg) : Cal P w K mg base CX0 1 "whole_cube" a_whole_cube sp_whole_cube := by
  obtain ⟨fd, F⟩ := T.d_whole_cube
  refine ⟨⟨fd, ["table"], F.ok sc_whole_cube (fun vs H Q E h => by obtain ⟨t, k, n, E, rfl, _⟩ := h; rfl) (fun cdv A outer s H vs Q E hr h => ⟨_, pss_one (ps_ret (pe_ix ix_list (pv 0) (pe_op op_sub (pe_callB call_len rfl T.f_len PySem.boot_len (pa_cons (pv 0) pa_nil)) pe_int) (fun _ _ => rfl))), ?_⟩), F.binds fun _ _ _ _ _ _ us hl => match us, hl with | [_], _ => rfl⟩, T.g_whole_cube, F.kp⟩
  obtain ⟨t, k, n, E, rfl, ht, hn, q⟩ := h
  obtain ⟨zs, v, h1, h2, h3, h4⟩ := ht.get (c := n - 1) (by omega)
  refine ⟨_, rfl, _, rfl, _, _, rfl, .inl ⟨_, SqL.of h1, rfl⟩, _, _, rfl, rfl, _, _, _, _, rfl, rfl, SqL.of h1, ?_, q v h4⟩
  rw [h2, show ((n : Nat) : Int) - 1 = ((n - 1 : Nat) : Int) by omega]
  exact atI_nat h3
def sp_least_marks : Sp := fun vs H Q _ => ∃ (t : Addr) (k n : Nat) (E : Nat → Ent), vs = [.ref t] ∧ TableAt H t k E n ∧ n ≤ 729 ∧ ∀ H' p, Ex H H' → H' p = some (.lst ((List.range n).map fun c => markV (E c))) → Q (.ref p) H'
theorem sc_least_marks : FnScope ["table", "cube"] ["table"] (defScope s_least_marks) := C8.fnScope_by (by decide +kernel)
theorem c_least_marks (T : Tx K mg) : Cal P w K mg base CX0 1 "least_marks" a_least_marks sp_least_marks := by
  obtain ⟨fd, F⟩ := T.d_least_marks
  refine ⟨⟨fd, ["table"], F.ok sc_least_marks (fun vs H Q E h => by obtain ⟨t, k, n, E, rfl, _⟩ := h; rfl) (fun cdv A outer s H vs Q E hr h => ⟨_, pss_one (ps_ret (by exact (pe_lc (own := [("cube", 1)]) (g := gName 1) rfl sc_least_marks.nd (pi_list (pv 0)) (blkOk_by (own := [("cube", 1)]) (N := ["table", "cube"]) (sc := defScope s_least_marks) (by decide +kernel)) (fun _ _ _ _ _ => by exact (pg_name (i := 1) sc_least_marks.nd rfl (Or.inl rfl))) (fun _ _ _ _ _ => by exact pts_nil) (fun _ _ _ _ _ => by exact (pe_fldK (K := K) rfl (pv 1) rfl))))), ?_⟩), F.binds fun _ _ _ _ _ _ us hl => match us, hl with | [_], _ => rfl⟩, T.g_least_marks, F.kp⟩
  obtain ⟨t, k, n, E, rfl, ⟨zs, h1, h2, h3⟩, hn, q⟩ := h
  refine ⟨_, rfl, t, rfl, ⟨_, SqL.of h1⟩, fun D hD => ?_⟩
  refine lc_map (walk_list (K := K) (a := t) (xs := zs)) (fun i => markV (E i)) (by omega) hD (fun H2 e2 => SqL.of (e2 _ _ h1)) (fun i u H2 H' C hi e2 y hC => ?_) (fun H2 e2 h2' => ?_)
  · obtain ⟨rfl, hx⟩ := y
    obtain ⟨a, ad, ah, rfl, g1, g2⟩ := h3 i u hx
    exact ⟨rfl, _, rfl, a, _, ad, _, _, rfl, e2 _ _ g1, T.cl_Cube, T.na_Cube_mark, lk_mark, hC _ exr⟩
  · rw [h2] at h2'
    exact q _ D e2 h2'
def sp_thumb_mark : Sp := fun vs H Q _ => ∃ (t : Addr) (v : V) (k c n : Nat) (E : Nat → Ent), vs = [.ref t, v] ∧ TableAt H t k E n ∧ c < n ∧ k ≤ 6 ∧ CubeAt H k c (E c) v ∧ ((E c).answer = none → Vbenae.open_ k c ≠ []) ∧ ∀ H', Ex H H' → Q (thumbV E k c) H'
theorem sc_thumb_mark : FnScope ["table", "cube", "greater", "mark", "low", "high"] ["table", "cube"] (defScope s_thumb_mark) := C8.fnScope_by (by decide +kernel)
theorem c_thumb_mark (T : Tx K mg) : Cal P w K mg base CX0 2 "thumb_mark" a_thumb_mark sp_thumb_mark := by
  obtain ⟨fd, F⟩ := T.d_thumb_mark
  refine ⟨⟨fd, ["table", "cube"], F.ok sc_thumb_mark (fun vs H Q E h => by obtain ⟨t, v, k, c, n, E, rfl, _⟩ := h; rfl) (fun cdv A outer s H vs Q E hr h => ⟨_, pss_cons (ps_if (pt_cmpR op_notN (pe_fld (pv 1) rfl) pe_non (nomark _)) (pss_one (ps_ret pe_non)) pss_nil)
    (pss_cons (ps_setLc (i := 2) (own := [("mark", 3), ("low", 4), ("high", 5)]) (g := gTup K 3 (gCons (gName 3) (gCons (gName 4) (gCons (gName 5) (gNil))))) rfl sc_thumb_mark.nd rfl rfl (sw_true rfl rfl rfl (by decide +kernel)) (pi_list (pe_fld (pv 1) rfl)) (blkOk_by (own := [("mark", 3), ("low", 4), ("high", 5)]) (N := ["table", "cube", "greater", "mark", "low", "high"]) (sc := defScope s_thumb_mark) (by decide +kernel)) (fun _ _ _ _ _ => by exact (pg_t3 (i1 := 3) (i2 := 4) (i3 := 5) rfl sc_thumb_mark.nd rfl rfl rfl rfl rfl rfl)) (fun _ _ _ _ _ => by exact pts_nil) (fun _ _ _ _ _ => by exact (pe_callB (call_max2 rfl) rfl T.f_max (by decide +kernel) (pa_cons (pe_fldK (K := K) rfl (pe_ix (ix_listK (K := K) rfl) (pv 0) (pv 4) (fun _ _ => rfl)) rfl) (pa_cons (pe_fldK (K := K) rfl (pe_ix (ix_listK (K := K) rfl) (pv 0) (pv 5) (fun _ _ => rfl)) rfl) pa_nil)))))
    (pss_one (ps_ret (pe_f (c_first_least T) hr (by decide) rfl (pa_cons (pe_fld (pv 1) rfl) (pa_cons (pv 2) pa_nil)))))), ?_⟩), F.binds fun _ _ _ _ _ _ us hl => match us, hl with | [_, _], _ => rfl⟩, T.g_thumb_mark, F.kp⟩
  obtain ⟨t, v, k, c, n, E, rfl, ⟨zs, t1, t2, t3⟩, hcn, hk, ⟨a, ad, hp, rfl, c1, hh⟩, hO, q⟩ := h
  obtain ⟨ys, h1, h2, h3⟩ := id hh
  have hol := open_len k c
  have cg : ∀ d, d < n → ∃ v, zs[d]? = some v ∧ CubeAt H k d (E d) v := fun d hd => by
    have hv : zs[d]? = some zs[d] := List.getElem?_eq_getElem (by omega)
    exact ⟨_, hv, t3 d _ hv⟩
  refine ⟨_, rfl, a, _, ad, _, _, rfl, c1, T.cl_Cube, T.na_Cube_pile, lk_pile, rfl, _, rfl, ?_⟩
  by_cases ha : (E c).answer.isSome = true
  · refine ifNT (optV_ne ha) ?_
    have := q H exr
    unfold thumbV at this
    rw [if_pos ha] at this
    exact this
  · have hn := is_none_of ha
    refine ifNF (by rw [hn]; rfl) ?_
    have hne := hO hn
    have q2 : ∀ H', Ex H H' → Q (.int (evenE E k c : Nat)) H' := fun H' e' => by
      have := q H' e'
      unfold thumbV at this
      rw [if_neg ha] at this
      exact this
    refine ⟨_, rfl, a, _, ad, _, _, rfl, c1, T.cl_Cube, T.na_Cube_halves, lk_halves, hp, rfl, ⟨_, SqL.of h1⟩, fun D hD => ?_⟩
    refine lc_map (walk_list (K := K) (a := hp) (xs := ys)) (fun i => (Vbenae.open_ k c)[i]?.elim .non fun m => .int ((max (E (Vbenae.lower c m)).cards (E (Vbenae.upper c m)).cards : Nat) : Int)) (by omega) hD (fun H2 e2 => SqL.of (e2 _ _ h1)) (fun i u H2 H' C hi e2 y hC => ?_) (fun H2 e2 h2' => ?_)
    · obtain ⟨rfl, hx⟩ := y
      have hom : (Vbenae.open_ k c)[i]? = some (Vbenae.open_ k c)[i] := List.getElem?_eq_getElem (by omega)
      generalize (Vbenae.open_ k c)[i] = m at hom
      obtain ⟨tu, rfl, htu⟩ := h3 i m u hom hx
      obtain ⟨n1, n2, _⟩ := open_lt (List.mem_of_getElem? hom)
      obtain ⟨_, gu, ua, ud, uh, rfl, u1, u2⟩ := cg (Vbenae.lower c m) (by omega)
      obtain ⟨_, gw, wa, wd, wh, rfl, w1, w2⟩ := cg (Vbenae.upper c m) (by omega)
      refine ⟨tu, _, rfl, SqT.of (e2 _ _ htu), rfl, _, _, rfl, _, _, rfl, _, _, rfl, rfl, rfl, ?_⟩
      refine ⟨_, rfl, _, rfl, _, _, _, _, rfl, rfl, SqL.of (e2 _ _ t1), atI_nat gu, ua, _, ud, _, _, rfl, e2 _ _ u1, T.cl_Cube, T.na_Cube_cards, lk_cards, _, rfl, _, rfl, _, _, _, _, rfl, rfl, SqL.of (e2 _ _ t1), atI_nat gw, wa, _, wd, _, _, rfl, e2 _ _ w1, T.cl_Cube, T.na_Cube_cards, lk_cards, _, _, rfl, ?_⟩
      have := hC _ exr
      rw [hom] at this
      refine qi (Q := C) ?_ this
      split <;> omega
    · rw [h2, range_map] at h2'
      have hd' : H2 D = some (.lst (nvs ((Vbenae.open_ k c).map fun m => max (E (Vbenae.lower c m)).cards (E (Vbenae.upper c m)).cards))) := by
        rw [h2', nvs_comp]
      exact ⟨_, rfl, a, _, ad, _, _, rfl, e2 _ _ c1, T.cl_Cube, T.na_Cube_halves, lk_halves, _, rfl, hp, D, k, c, _, rfl, hh.ex e2, hd', hne, q2 _ e2⟩
def sp_thumb_marks : Sp := fun vs H Q _ => ∃ (t : Addr) (k n : Nat) (E : Nat → Ent), vs = [.ref t] ∧ TableAt H t k E n ∧ n ≤ 729 ∧ k ≤ 6 ∧ (∀ c, c < n → (E c).answer = none → Vbenae.open_ k c ≠ []) ∧ ∀ H' p, Ex H H' → H' p = some (.lst ((List.range n).map fun c => thumbV E k c)) → Q (.ref p) H'
theorem sc_thumb_marks : FnScope ["table", "cube"] ["table"] (defScope s_thumb_marks) := C8.fnScope_by (by decide +kernel)
theorem c_thumb_marks (T : Tx K mg) : Cal P w K mg base CX0 3 "thumb_marks" a_thumb_marks sp_thumb_marks := by
  obtain ⟨fd, F⟩ := T.d_thumb_marks
  refine ⟨⟨fd, ["table"], F.ok sc_thumb_marks (fun vs H Q E h => by obtain ⟨t, k, n, E, rfl, _⟩ := h; rfl) (fun cdv A outer s H vs Q E hr h => ⟨_, pss_one (ps_ret (by exact (pe_lc (own := [("cube", 1)]) (g := gName 1) rfl sc_thumb_marks.nd (pi_list (pv 0)) (blkOk_by (own := [("cube", 1)]) (N := ["table", "cube"]) (sc := defScope s_thumb_marks) (by decide +kernel)) (fun _ _ _ _ _ => by exact (pg_name (i := 1) sc_thumb_marks.nd rfl (Or.inl rfl))) (fun _ _ _ _ _ => by exact pts_nil) (fun _ _ _ _ _ => by exact (pe_f (c_thumb_mark T) hr (by decide) rfl (pa_cons (pv 0) (pa_cons (pv 1) pa_nil))))))), ?_⟩), F.binds fun _ _ _ _ _ _ us hl => match us, hl with | [_], _ => rfl⟩, T.g_thumb_marks, F.kp⟩
  obtain ⟨t, k, n, E, rfl, ht, hn, hk, hO, q⟩ := h
  obtain ⟨zs, h1, h2, h3⟩ := id ht
  refine ⟨_, rfl, t, rfl, ⟨_, SqL.of h1⟩, fun D hD => ?_⟩
  refine lc_map (walk_list (K := K) (a := t) (xs := zs)) (fun i => thumbV E k i) (by omega) hD (fun H2 e2 => SqL.of (e2 _ _ h1)) (fun i u H2 H' C hi e2 y hC => ?_) (fun H2 e2 h2' => ?_)
  · obtain ⟨rfl, hx⟩ := y
    rw [h2] at hi
    exact ⟨rfl, _, rfl, _, rfl, t, u, k, i, n, E, rfl, ht.ex e2, hi, hk, (h3 i u hx).ex e2, hO i hi, fun H3 e3 => hC _ e3⟩
  · rw [h2] at h2'
    exact q _ D e2 h2'
end
end N
namespace N
open PySem PySem.Spec PyProof.Rows L2 NX
open Vbenae (File Line Ask Plan)
theorem iv_at {d : List Int} {i : Nat} (h : i < d.length) : (iv d)[i]? = some (.int (d.getD i 0)) := by
  rw [List.getElem?_map, List.getElem?_eq_getElem h, List.getD_eq_getElem?_getD, List.getElem?_eq_getElem h] <;> rfl
/-- what a label may be by a mark -/
def labM (e : Ent) (d : List Int) (c m : Nat) : Int := (e.cards : Int) + d.getD (Vbenae.lower c m) 0 + d.getD (Vbenae.upper c m) 0
def badC (E : Nat → Ent) (k : Nat) (d : List Int) (c : Nat) : Bool := if (E c).answer.isSome = true then decide (0 < d.getD c 0) else (Vbenae.open_ k c).any fun m => decide (labM (E c) d c m < d.getD c 0)
section
variable {P : Program} {w : World} {K : PySem.W.Frag} {mg : Str → Option Value} {base : Heap}
def sp_greatest_label : Sp := fun vs H Q _ => ∃ (v : V) (l : Addr) (k c : Nat) (e : Ent) (d : List Int), vs = [v, .ref l] ∧ CubeAt H k c e v ∧ H l = some (.lst (iv d)) ∧ c < d.length ∧ k ≤ 6 ∧ (e.answer = none → Vbenae.open_ k c ≠ []) ∧
  (e.answer.isSome = true → Q (.int 0) H) ∧ (¬ e.answer.isSome = true → ∀ H' z, Ex H H' → (∃ m ∈ Vbenae.open_ k c, z = labM e d c m) → (∀ m ∈ Vbenae.open_ k c, z ≤ labM e d c m) → Q (.int z) H')
theorem sc_greatest_label : FnScope ["cube", "labels", "mark", "low", "high"] ["cube", "labels"] (defScope s_greatest_label) := C8.fnScope_by (by decide +kernel)
theorem c_greatest_label (T : Tx K mg) : Cal P w K mg base CX0 1 "greatest_label" a_greatest_label sp_greatest_label := by
  obtain ⟨fd, F⟩ := T.d_greatest_label
  refine ⟨⟨fd, ["cube", "labels"], F.ok sc_greatest_label (fun vs H Q E h => by obtain ⟨v, l, k, c, e, d, rfl, _⟩ := h; rfl) (fun cdv A outer s H vs Q E hr h => ⟨_, pss_cons (ps_if (pt_cmpR op_notN (pe_fld (pv 0) rfl) pe_non (nomark _)) (pss_one (ps_ret pe_int)) pss_nil)
    (pss_one (ps_ret (pe_callB (cr_min rfl) rfl T.f_min (by decide +kernel) (by exact (pa_cons (by exact (pe_lc (own := [("mark", 2), ("low", 3), ("high", 4)]) (g := gTup K 3 (gCons (gName 2) (gCons (gName 3) (gCons (gName 4) (gNil))))) rfl sc_greatest_label.nd (pi_list (pe_fld (pv 0) rfl)) (blkOk_by (own := [("mark", 2), ("low", 3), ("high", 4)]) (N := ["cube", "labels", "mark", "low", "high"]) (sc := defScope s_greatest_label) (by decide +kernel)) (fun _ _ _ _ _ => by exact (pg_t3 (i1 := 2) (i2 := 3) (i3 := 4) rfl sc_greatest_label.nd rfl rfl rfl rfl rfl rfl)) (fun _ _ _ _ _ => by exact pts_nil) (fun _ _ _ _ _ => by exact (pe_op op_add (pe_op op_add (pe_fldK (K := K) rfl (pv 0) rfl) (pe_ix (ix_listK (K := K) rfl) (pv 1) (pv 3) (fun _ _ => rfl))) (pe_ix (ix_listK (K := K) rfl) (pv 1) (pv 4) (fun _ _ => rfl)))))) pa_nil))))), ?_⟩), F.binds fun _ _ _ _ _ _ us hl => match us, hl with | [_, _], _ => rfl⟩, T.g_greatest_label, F.kp⟩
  obtain ⟨v, l, k, c, e, d, rfl, ⟨a, ad, hp, rfl, c1, hh⟩, hl, hcd, hk, hO, q1, q2⟩ := h
  obtain ⟨ys, h1, h2, h3⟩ := id hh
  have hol := open_len k c
  refine ⟨_, rfl, a, _, ad, _, _, rfl, c1, T.cl_Cube, T.na_Cube_pile, lk_pile, rfl, _, rfl, ?_⟩
  by_cases ha : e.answer.isSome = true
  · exact ifNT (optV_ne ha) (q1 ha)
  · have hn := is_none_of ha
    refine ifNF (by rw [hn]; rfl) ?_
    have hne := hO hn
    refine ⟨_, rfl, a, _, ad, _, _, rfl, c1, T.cl_Cube, T.na_Cube_halves, lk_halves, hp, rfl, ⟨_, SqL.of h1⟩, fun D hD => ?_⟩
    refine lc_map (walk_list (K := K) (a := hp) (xs := ys)) (fun i => (Vbenae.open_ k c)[i]?.elim .non fun m => .int (labM e d c m)) (by omega) hD (fun H2 e2 => SqL.of (e2 _ _ h1)) (fun i u H2 H' C hi e2 y hC => ?_) (fun H2 e2 h2' => ?_)
    · obtain ⟨rfl, hx⟩ := y
      have hom : (Vbenae.open_ k c)[i]? = some (Vbenae.open_ k c)[i] := List.getElem?_eq_getElem (by omega)
      generalize (Vbenae.open_ k c)[i] = m at hom
      obtain ⟨tu, rfl, htu⟩ := h3 i m u hom hx
      obtain ⟨n1, n2, _⟩ := open_lt (List.mem_of_getElem? hom)
      refine ⟨tu, _, rfl, SqT.of (e2 _ _ htu), rfl, _, _, rfl, _, _, rfl, _, _, rfl, rfl, rfl, ?_⟩
      refine ⟨_, rfl, a, _, ad, _, _, rfl, e2 _ _ c1, T.cl_Cube, T.na_Cube_cards, lk_cards, _, rfl, _, rfl, _, _, _, _, rfl, rfl, SqL.of (e2 _ _ hl), atI_nat (iv_at (by omega)), _, _, rfl, rfl, _, rfl, _, rfl, _, _, _, _, rfl, rfl, SqL.of (e2 _ _ hl), atI_nat (iv_at (by omega)), _, _, rfl, rfl, ?_⟩
      have := hC _ exr
      rw [hom] at this
      exact this
    · rw [h2, range_map] at h2'
      have hd' : H2 D = some (.lst (((Vbenae.open_ k c).map fun m => labM e d c m).map V.int)) := by
        rw [h2', List.map_map] <;> rfl
      refine tN ⟨D, _, rfl, SqL.of hd', ?_, fun z hz hz2 => ?_⟩
      · rw [List.length_map]
        exact List.length_pos_iff.mpr hne
      · refine q2 ha _ z e2 ?_ fun m hm => hz2 _ (List.mem_map.mpr ⟨m, hm, rfl⟩)
        obtain ⟨m, hm, rfl⟩ := List.mem_map.mp hz
        exact ⟨m, hm, rfl⟩
def sp_first_too_great : Sp := fun vs H Q _ => ∃ (t l : Addr) (k n : Nat) (E : Nat → Ent) (d : List Int), vs = [.ref t, .ref l] ∧ TableAt H t k E n ∧ H l = some (.lst (iv d)) ∧ d.length = n ∧ k ≤ 6 ∧ (∀ c, c < n → (E c).answer = none → Vbenae.open_ k c ≠ []) ∧ ∀ H', Ex H H' → Q (optV ((List.range n).find? (badC E k d))) H'
theorem sc_first_too_great : FnScope ["table", "labels", "number", "cube"] ["table", "labels"] (defScope s_first_too_great) := C8.fnScope_by (by decide +kernel)
theorem c_first_too_great (T : Tx K mg) : Cal P w K mg base CX0 2 "first_too_great" a_first_too_great sp_first_too_great := by
  obtain ⟨fd, F⟩ := T.d_first_too_great
  refine ⟨⟨fd, ["table", "labels"], F.ok sc_first_too_great (fun vs H Q E h => by obtain ⟨t, l, k, n, E, d, rfl, _⟩ := h; rfl) (fun cdv A outer s H vs Q E hr h => ⟨_, pss_cons (ps_for PassesOwn.never rfl (pi_enum rfl T.f_enumerate (pa_cons (pv 0) pa_nil)) (pg_tup rfl (pgs_cons (pg_name (i := 2) sc_first_too_great.nd rfl (Or.inl rfl)) (pgs_cons (pg_name (i := 3) sc_first_too_great.nd rfl (Or.inl rfl)) pgs_nil)))
    (pss_one (ps_if (pt_cmpR op_gt (pe_ix ix_list (pv 1) (pv 2) (fun _ _ => rfl)) (pe_f (c_greatest_label T) hr (by decide) rfl (pa_cons (pv 3) (pa_cons (pv 1) pa_nil))) (nomark _)) (pss_one (ps_ret (pv 2))) pss_nil)))
    (pss_one (ps_ret pe_non)), ?_⟩), F.binds fun _ _ _ _ _ _ us hl => match us, hl with | [_, _], _ => rfl⟩, T.g_first_too_great, F.kp⟩
  obtain ⟨t, l, k, n, E, d, rfl, ⟨zs, h1, h2, h3⟩, hl, hd, hk, hO, q⟩ := h
  refine ⟨_, rfl, t, _, rfl, SqL.of h1, ?_⟩
  refine for_it (walk_enum (K := K) (a := t) (xs := zs)) (fun i σ H' => ∃ u v, σ = [some (.ref t), some (.ref l), u, v] ∧ Ex H H' ∧ ∀ m, m < i → badC E k d m = false)
    ⟨_, _, rfl, exr, fun m h => by omega⟩ (fun i σ H' _ ⟨_, _, _, e, _⟩ => SqL.of (e _ _ h1)) ?_ ?_
  · rintro i y σ H' H2 hi ⟨u, v, rfl, e, hno⟩ ⟨t2, u1, v1, rfl, ht, rfl, hu, hv⟩
    cases hu
    rw [h2] at hi
    have et := exn (o := .tup [.int (i : Nat), v1]) ht
    have e2 := ext e et
    have hv' : zs[i]? = some v1 := hv
    have hcu := (h3 i v1 hv').ex e2
    refine ⟨t2, _, rfl, SqT.of upd_same, rfl, _, _, rfl, _, _, rfl, rfl, ?_⟩
    have next : badC E k d i = false → ∀ {G : Hp}, Ex H G → ∃ u v, ([some (.ref t), some (.ref l), some (.int (i : Nat)), some v1] : L2.St) = [some (.ref t), some (.ref l), u, v] ∧ Ex H G ∧ ∀ m, m < i + 1 → badC E k d m = false := fun hb {G} eg => ⟨_, _, rfl, eg, fun m hm => by
      by_cases hm2 : m = i
      · rw [hm2]; exact hb
      · exact hno m (by omega)⟩
    have found : badC E k d i = true → ∀ {G : Hp}, Ex H G → Q (.int (i : Nat)) G := fun hb {G} eg => by
      have := q G eg
      rw [find_at hi hno hb] at this
      exact this
    refine ⟨_, rfl, _, rfl, _, _, _, _, rfl, rfl, SqL.of (e2 _ _ hl), atI_nat (iv_at (by omega)), _, rfl, _, rfl, v1, l, k, i, E i, d, rfl, hcu, e2 _ _ hl, by omega, hk, hO i hi, fun ha => ?_, fun ha H3 z e3 hz hz2 => ?_⟩
    · refine ⟨_, _, rfl, rfl, _, rfl, ?_⟩
      by_cases cc : 0 < d.getD i 0
      · refine ifT cc ⟨_, rfl, found ?_ e2⟩
        unfold badC
        rw [if_pos ha]
        exact decide_eq_true cc
      · refine ifF cc (next ?_ e2)
        unfold badC
        rw [if_pos ha]
        exact decide_eq_false cc
    · refine ⟨_, _, rfl, rfl, _, rfl, ?_⟩
      have ee := ext e2 e3
      by_cases cc : z < d.getD i 0
      · refine ifT cc ⟨_, rfl, found ?_ ee⟩
        unfold badC
        rw [if_neg ha]
        obtain ⟨m, hm, rfl⟩ := hz
        exact List.any_eq_true.mpr ⟨m, hm, decide_eq_true cc⟩
      · refine ifF cc (next ?_ ee)
        unfold badC
        rw [if_neg ha]
        refine Bool.eq_false_iff.mpr fun hx => ?_
        obtain ⟨m, hm, hx2⟩ := List.any_eq_true.mp hx
        have := hz2 m hm
        have := of_decide_eq_true hx2
        omega
  · rintro σ H' ⟨u, v, rfl, e, hno⟩
    rw [h2] at hno
    have := q H' e
    rw [find_no hno] at this
    exact this
end
end N
namespace N
open PySem PySem.Spec PyProof.Rows L2 NX
open Vbenae (File Line Ask Plan)
/-! ### the halves of a cube, digit by digit -/
def digOk (c m j : Nat) : Bool := Vbenae.digit (Vbenae.lower c m) j == (if j = m then 0 else Vbenae.digit c j) && Vbenae.digit (Vbenae.upper c m) j == (if j = m then 1 else Vbenae.digit c j)
theorem digs : ((List.range 729).all fun c => (List.range 6).all fun m => if Vbenae.digit c m = 2 then (List.range 6).all (digOk c m) else true) = true := by decide +kernel
theorem dig_half {c m j : Nat} (hc : c < 729) (hm : m < 6) (hj : j < 6) (h : Vbenae.digit c m = 2) : Vbenae.digit (Vbenae.lower c m) j = (if j = m then 0 else Vbenae.digit c j) ∧ Vbenae.digit (Vbenae.upper c m) j = (if j = m then 1 else Vbenae.digit c j) := by
  have h1 := List.all_eq_true.mp (List.all_eq_true.mp digs c (List.mem_range.mpr hc)) m (List.mem_range.mpr hm)
  rw [if_pos h] at h1
  have h2 := List.all_eq_true.mp h1 j (List.mem_range.mpr hj)
  unfold digOk at h2
  rw [Bool.and_eq_true] at h2
  exact ⟨by simpa using h2.1, by simpa using h2.2⟩
theorem open_half {k c m : Nat} (hk : k ≤ 6) (hc : c < 729) (hm : m ∈ Vbenae.open_ k c) : (Vbenae.open_ k (Vbenae.lower c m)).length < (Vbenae.open_ k c).length ∧ (Vbenae.open_ k (Vbenae.upper c m)).length < (Vbenae.open_ k c).length := by
  obtain ⟨h1, h2⟩ := open_in hm
  have gen : ∀ d : Nat, (∀ j, j < k → (Vbenae.digit d j == 2) = (Vbenae.digit c j == 2 && j != m)) → (Vbenae.open_ k d).length < (Vbenae.open_ k c).length := fun d hd => by
    have e : Vbenae.open_ k d = (Vbenae.open_ k c).filter fun j => j != m := by
      unfold Vbenae.open_
      rw [List.filter_filter]
      apply List.filter_congr
      intro j hj
      rw [hd j (List.mem_range.mp hj), Bool.and_comm]
    rw [e, List.length_filter_lt_length_iff_exists]
    exact ⟨m, hm, by simp⟩
  refine ⟨gen _ fun j hj => ?_, gen _ fun j hj => ?_⟩
  · rw [(dig_half hc (by omega) (by omega) h2).1]
    by_cases e : j = m
    · rw [if_pos e, e]; simp
    · rw [if_neg e]; simp [e]
  · rw [(dig_half hc (by omega) (by omega) h2).2]
    by_cases e : j = m
    · rw [if_pos e, e]; simp
    · rw [if_neg e]; simp [e]
theorem nvs_app (a b : List Nat) : nvs (a ++ b) = nvs a ++ nvs b := List.map_append ..
theorem iv_app (a b : List Int) : iv (a ++ b) = iv a ++ iv b := List.map_append ..
/-! ### a plan out of a table -/
def planG (E : Nat → Ent) (M : Nat → Nat) : Nat → Nat → Plan
  | 0, _ => .pile 0
  | g + 1, c => match (E c).answer with
    | some a => .pile a
    | none => .needle (M c) (planG E M g (Vbenae.lower c (M c))) (planG E M g (Vbenae.upper c (M c)))
theorem planG_succ (E : Nat → Ent) (M : Nat → Nat) (g c : Nat) : planG E M (g + 1) c = (match (E c).answer with
    | some a => .pile a
    | none => .needle (M c) (planG E M g (Vbenae.lower c (M c))) (planG E M g (Vbenae.upper c (M c)))) := rfl
theorem plan_from (t : Array Ent) : ∀ g c, Vbenae.planFrom t g c = planG (Vbenae.entryAt t) (fun c => (Vbenae.entryAt t c).mark) g c
  | 0, _ => rfl
  | g + 1, c => by
    rw [Vbenae.planFrom, planG]
    cases (Vbenae.entryAt t c).answer with
    | some a => rfl
    | none =>
      dsimp only
      rw [plan_from t g, plan_from t g]
theorem thumb_from (t : Array Ent) (k : Nat) : ∀ g c, Vbenae.thumbFrom t k g c = planG (Vbenae.entryAt t) (Vbenae.evenly t k) g c
  | 0, _ => rfl
  | g + 1, c => by
    rw [Vbenae.thumbFrom, planG]
    cases (Vbenae.entryAt t c).answer with
    | some a => rfl
    | none =>
      dsimp only
      rw [thumb_from t k g, thumb_from t k g]
def szP : Plan → Nat
  | .pile _ => 1
  | .needle _ l r => 1 + szP l + szP r
theorem szP_pos : ∀ p, 0 < szP p
  | .pile _ => by show 0 < 1; decide
  | .needle _ l r => by rw [szP]; omega
theorem row_len : ∀ p, (Vbenae.planRow p).length ≤ 2 * szP p
  | .pile _ => by show 2 ≤ 2 * 1; decide
  | .needle _ l r => by
    rw [Vbenae.planRow, szP, List.length_cons, List.length_append]
    have := row_len l
    have := row_len r
    omega
def costOn (E : Nat → Ent) : Plan → Nat → Nat
  | .pile _, _ => 0
  | .needle m l r, c => (E c).cards + costOn E l (Vbenae.lower c m) + costOn E r (Vbenae.upper c m)
/-- marks of a plan that stand open -/
def GoodM (E : Nat → Ent) (M : Nat → Nat) (k : Nat) : Prop := ∀ c, c < 3 ^ k → (E c).answer = none → M c ∈ Vbenae.open_ k c
section
variable {E : Nat → Ent} {M : Nat → Nat} {k : Nat}
theorem planG_stab (hk : k ≤ 6) (hM : GoodM E M k) : ∀ g c, c < 3 ^ k → (Vbenae.open_ k c).length < g → planG E M (g + 1) c = planG E M g c
  | 0, _, _, h => by omega
  | g + 1, c, hc, h => by
    have h9 := (pow3 hk).2
    rw [planG_succ E M (g + 1) c, planG_succ E M g c]
    cases ha : (E c).answer with
    | some a => rfl
    | none =>
      have hm := hM c hc ha
      obtain ⟨l1, l2, _⟩ := open_lt hm
      obtain ⟨o1, o2⟩ := open_half hk (by omega) hm
      dsimp only
      rw [planG_stab hk hM g _ (by omega) (by omega), planG_stab hk hM g _ (by omega) (by omega)]
def PG (E : Nat → Ent) (M : Nat → Nat) (k c : Nat) : Plan := planG E M ((Vbenae.open_ k c).length + 1) c
theorem PG_of (hk : k ≤ 6) (hM : GoodM E M k) {g c : Nat} (hc : c < 3 ^ k) (h : (Vbenae.open_ k c).length < g) : planG E M g c = PG E M k c := by
  obtain ⟨d, rfl⟩ : ∃ d, g = (Vbenae.open_ k c).length + 1 + d := ⟨g - ((Vbenae.open_ k c).length + 1), by omega⟩
  induction d with
  | zero => rfl
  | succ d ih =>
    rw [← Nat.add_assoc, planG_stab hk hM _ _ hc (by omega)]
    exact ih (by omega)
theorem PG_eq (hk : k ≤ 6) (hM : GoodM E M k) {c : Nat} (hc : c < 3 ^ k) : PG E M k c = (match (E c).answer with
    | some a => .pile a
    | none => .needle (M c) (PG E M k (Vbenae.lower c (M c))) (PG E M k (Vbenae.upper c (M c)))) := by
  have h9 := (pow3 hk).2
  unfold PG
  rw [planG]
  cases ha : (E c).answer with
  | some a => rfl
  | none =>
    have hm := hM c hc ha
    obtain ⟨l1, l2, _⟩ := open_lt hm
    obtain ⟨o1, o2⟩ := open_half hk (by omega) hm
    dsimp only
    rw [PG_of hk hM (by omega) o1, PG_of hk hM (by omega) o2] <;> rfl
theorem PG_size (hk : k ≤ 6) (hM : GoodM E M k) : ∀ (n c : Nat), c < 3 ^ k → (Vbenae.open_ k c).length ≤ n → szP (PG E M k c) + 1 ≤ 2 ^ (n + 1) := by
  have h9 := (pow3 hk).2
  intro n
  induction n with
  | zero =>
    intro c hc ho
    rw [PG_eq hk hM hc]
    cases ha : (E c).answer with
    | some a => show 1 + 1 ≤ 2 ^ 1; decide
    | none =>
      have hm := hM c hc ha
      have := List.length_pos_of_mem hm
      omega
  | succ n ih =>
    intro c hc ho
    rw [PG_eq hk hM hc]
    cases ha : (E c).answer with
    | some a =>
      show 1 + 1 ≤ 2 ^ (n + 1 + 1)
      rw [Nat.pow_succ, Nat.pow_succ]
      have : 0 < 2 ^ n := Nat.pow_pos (by decide)
      omega
    | none =>
      have hm := hM c hc ha
      obtain ⟨l1, l2, _⟩ := open_lt hm
      obtain ⟨o1, o2⟩ := open_half hk (by omega) hm
      have i1 := ih (Vbenae.lower c (M c)) (by omega) (by omega)
      have i2 := ih (Vbenae.upper c (M c)) (by omega) (by omega)
      show 1 + szP _ + szP _ + 1 ≤ 2 ^ (n + 1 + 1)
      rw [Nat.pow_succ 2 (n + 1)]
      omega
theorem PG_small (hk : k ≤ 6) (hM : GoodM E M k) {c : Nat} (hc : c < 3 ^ k) : (Vbenae.planRow (PG E M k c)).length ≤ 256 := by
  have h1 := PG_size hk hM 6 c hc (Nat.le_trans (open_len k c) hk)
  have h2 := row_len (PG E M k c)
  omega
end
section
variable {P : Program} {w : World} {K : PySem.W.Frag} {mg : Str → Option Value} {base : Heap}
def sp_cost_and_row : Sp := fun vs H Q _ => ∃ (t ml : Addr) (k : Nat) (E : Nat → Ent) (M : Nat → Nat) (MV : Nat → V), vs = [.ref t, .ref ml] ∧ TableAt H t k E (3 ^ k) ∧ k ≤ 6 ∧ H ml = some (.lst ((List.range (3 ^ k)).map MV)) ∧ GoodM E M k ∧ (∀ c, c < 3 ^ k → (E c).answer = none → MV c = .int (M c : Nat)) ∧
  ∀ H' p, Ex H H' → H' p = some (.lst (iv ((costOn E (PG E M k (3 ^ k - 1)) (3 ^ k - 1) : Int) :: Vbenae.planRow (PG E M k (3 ^ k - 1))))) → Q (.ref p) H'
theorem sc_cost_and_row : FnScope ["table", "marks", "cost", "row", "waiting", "number", "cube"] ["table", "marks"] (defScope s_cost_and_row) := C8.fnScope_by (by decide +kernel)
theorem c_cost_and_row (T : Tx K mg) : Cal P w K mg base CX0 2 "cost_and_row" a_cost_and_row sp_cost_and_row := by
  obtain ⟨fd, F⟩ := T.d_cost_and_row
  refine ⟨⟨fd, ["table", "marks"], F.ok sc_cost_and_row (fun vs H Q E h => by obtain ⟨t, ml, k, E, M, MV, rfl, _⟩ := h; rfl) (fun cdv A outer s H vs Q E hr h => ⟨_, pss_cons (ps_set (i := 2) sc_cost_and_row.nd rfl (Or.inl rfl) pe_int)
    (pss_cons (ps_set (i := 3) sc_cost_and_row.nd rfl (Or.inl rfl) (pe_lst pa_nil))
    (pss_cons (ps_set (i := 4) sc_cost_and_row.nd rfl (Or.inl rfl) (pe_lst (pa_cons (pe_op op_sub (pe_callB call_len rfl T.f_len PySem.boot_len (pa_cons (pv 0) pa_nil)) pe_int) pa_nil)))
    (pss_cons (ps_while PassesOwn.never (pt_cmpR op_gt (pe_callB call_len rfl T.f_len PySem.boot_len (pa_cons (pv 4) pa_nil)) pe_int (nomark _))
    (pss_cons (ps_set (i := 5) sc_cost_and_row.nd rfl (Or.inl rfl) (pe_bm0 PySem.F.plainAttrs_list PySem.F.slot_list_pop PySem.F.type_list_pop mt_pop (pv 4)))
    (pss_cons (ps_set (i := 6) sc_cost_and_row.nd rfl (Or.inl rfl) (pe_ix ix_list (pv 0) (pv 5) (fun _ _ => rfl)))
    (pss_one (ps_if (pt_cmpR op_notN (pe_fld (pv 6) rfl) pe_non (nomark _)) (pss_one (ps_expr (pe_bm PySem.F.plainAttrs_list PySem.F.slot_list_extend PySem.F.type_list_extend mt_extend (pv 3) (pa_cons (pe_lst (pa_cons pe_int (pa_cons (pe_fld (pv 6) rfl) pa_nil))) pa_nil)))) (pss_cons (ps_set (i := 2) sc_cost_and_row.nd rfl (Or.inl rfl) (pe_op op_add (pv 2) (pe_fld (pv 6) rfl)))
    (pss_cons (ps_expr (pe_bm PySem.F.plainAttrs_list PySem.F.slot_list_append PySem.F.type_list_append mt_append (pv 3) (pa_cons (pe_op op_add (pe_ix ix_list (pv 1) (pv 5) (fun _ _ => rfl)) pe_int) pa_nil)))
    (pss_cons (ps_expr (pe_bm PySem.F.plainAttrs_list PySem.F.slot_list_append PySem.F.type_list_append mt_append (pv 4) (pa_cons (pe_f (c_fallen_half T) hr (by decide) rfl (pa_cons (pv 5) (pa_cons (pe_ix ix_list (pv 1) (pv 5) (fun _ _ => rfl)) pa_nil))) pa_nil)))
    (pss_one (ps_expr (pe_bm PySem.F.plainAttrs_list PySem.F.slot_list_append PySem.F.type_list_append mt_append (pv 4) (pa_cons (pe_f (c_lifted_half T) hr (by decide) rfl (pa_cons (pv 5) (pa_cons (pe_ix ix_list (pv 1) (pv 5) (fun _ _ => rfl)) pa_nil))) pa_nil))))))))))))
    (pss_one (ps_ret (pe_op op_cat (pe_lst (pa_cons (pv 2) pa_nil)) (pv 3))))))), ?_⟩), F.binds fun _ _ _ _ _ _ us hl => match us, hl with | [_, _], _ => rfl⟩, T.g_cost_and_row, F.kp⟩
  obtain ⟨t, ml, k, E, M, MV, rfl, ht, hk, hml, hM, hMV, q⟩ := h
  obtain ⟨zs, t1, t2, t3⟩ := id ht
  have h3 := pow3 hk
  refine ⟨szl (Nat.zero_le _), fun rp hrp => ?_⟩
  have e1 := exn (o := .lst []) hrp
  refine ⟨_, rfl, _, _, rfl, .inl ⟨_, SqL.of (e1 _ _ t1), rfl⟩, _, _, rfl, rfl, by show 1 ≤ sizeLine; decide, fun wt hwt => ?_⟩
  have e2 := exn (o := .lst [V.int (((zs.length : Nat) : Int) - 1)]) hwt
  have e0 := ext e1 e2
  have hrw : rp ≠ wt := ne_of_none upd_same hwt
  have nwt : H wt = none := frb e1 hwt
  have htr : t ≠ rp := ne_of_none t1 hrp
  have htw : t ≠ wt := ne_of_none t1 nwt
  have hwhole : 3 ^ k - 1 < 3 ^ k := by omega
  have hRL := PG_small hk hM hwhole
  have hbad : ∀ p ∈ [rp, wt], H p = none := fun p hp => by
    simp only [List.mem_cons, List.not_mem_nil, or_false] at hp
    rcases hp with rfl | rfl
    · exact hrp
    · exact nwt
  have ir : rp ∈ [rp, wt] := by simp
  have iw : wt ∈ [rp, wt] := by simp
  have hlast : (((zs.length : Nat) : Int) - 1) = ((3 ^ k - 1 : Nat) : Int) := by omega
  refine ⟨fun m σ H' => ∃ (s : List Nat) (rw : List Int) (cq : Nat) (u v : Option V), σ = [some (.ref t), some (.ref ml), some (.int (cq : Nat)), some (.ref rp), some (.ref wt), u, v] ∧ m = (s.map fun c => szP (PG E M k c)).sum ∧ m ≤ 127 ∧ Ex H H' ∧ H' rp = some (.lst (iv rw)) ∧ H' wt = some (.lst (nvs s.reverse)) ∧ (∀ c ∈ s, c < 3 ^ k) ∧
      rw ++ s.flatMap (fun c => Vbenae.planRow (PG E M k c)) = Vbenae.planRow (PG E M k (3 ^ k - 1)) ∧ cq + (s.map fun c => costOn E (PG E M k c) c).sum = costOn E (PG E M k (3 ^ k - 1)) (3 ^ k - 1),
    ⟨_, [3 ^ k - 1], [], 0, _, _, rfl, rfl, ?_, e0, (upd_ne hrw).trans upd_same, ?_, fun c hc => by rw [List.mem_singleton.mp hc]; exact hwhole, by simp, by simp⟩, ?_⟩
  · have h1 := PG_size hk hM 6 _ hwhole (Nat.le_trans (open_len k _) hk)
    simp
    omega
  · rw [upd_same]
    show some (HO.lst [V.int (((zs.length : Nat) : Int) - 1)]) = _
    rw [hlast] <;> rfl
  rintro m σ H' ⟨s, rw, cq, u, v, rfl, rfl, hm, e, hr, hw, hs, hrow, hcost⟩
  have hlen : s.length ≤ (s.map fun c => szP (PG E M k c)).sum := by
    clear hm hrow hcost hw hs
    induction s with
    | nil => simp
    | cons c r ih =>
      have := szP_pos (PG E M k c)
      simp at ih ⊢
      omega
  have hrl : rw.length ≤ 256 := by
    have := congrArg List.length hrow
    rw [List.length_append] at this
    omega
  have hnr : (nvs s.reverse).length = s.length := by rw [nvs_len, List.length_reverse]
  have hir : (iv rw).length = rw.length := List.length_map ..
  refine ⟨_, rfl, _, _, rfl, .inl ⟨_, SqL.of hw, rfl⟩, _, _, rfl, rfl, _, rfl, ?_⟩
  rw [hnr]
  cases s with
  | nil =>
    refine ifF (by show ¬ (0 : Int) < ((0 : Nat) : Int); omega) ?_
    rw [List.flatMap_nil, List.append_nil] at hrow
    have hc0 : cq = costOn E (PG E M k (3 ^ k - 1)) (3 ^ k - 1) := hcost
    refine ⟨_, rfl, by show 1 ≤ sizeLine; decide, fun p hp => ?_⟩
    have e3 := exn (o := .lst [V.int (cq : Nat)]) hp
    refine ⟨_, rfl, _, _, _, _, rfl, rfl, upd_same, e3 _ _ hr, szl (by rw [hir]; show 1 + _ ≤ _; omega), fun p2 hp2 => ?_⟩
    have e4 := exn (o := .lst ([V.int (cq : Nat)] ++ iv rw)) hp2
    refine q _ p2 (ext e (ext e3 e4)) ?_
    rw [upd_same, hrow, hc0] <;> rfl
  | cons c s =>
    refine ifT (by simp) ⟨fun σ' H2 => _, fun _ _ z => z, ?_⟩
    have hc := hs c List.mem_cons_self
    have hrev : nvs (c :: s).reverse = nvs s.reverse ++ [V.int (c : Nat)] := (congrArg nvs List.reverse_cons).trans (nvs_app _ _)
    rw [hrev] at hw
    have hlt : ∀ d ∈ s, d < 3 ^ k := fun d hd => hs d (List.mem_cons_of_mem _ hd)
    refine ⟨_, rfl, .inl ⟨rfl, _, SqL.of hw⟩, wt, _, .int (c : Nat), rfl, rfl, hw, by rw [List.length_append, List.length_singleton, Nat.add_sub_cancel, List.getElem?_concat_length], ?_⟩
    rw [List.dropLast_concat]
    have bw : But [rp, wt] H' (upd H' wt (.lst (nvs s.reverse))) := but_u iw
    have eW := but_ex e bw hbad
    have hrW : (upd H' wt (.lst (nvs s.reverse))) rp = some (.lst (iv rw)) := (upd_ne hrw).trans hr
    have hwW : (upd H' wt (.lst (nvs s.reverse))) wt = some (.lst (nvs s.reverse)) := upd_same
    generalize upd H' wt (.lst (nvs s.reverse)) = Hw at *
    obtain ⟨_, vc, _, _, gv, hcu⟩ := (ht.ex eW).get hc
    rename_i zs' g1 g2
    obtain ⟨a, ad, ah, rfl, c1, c2⟩ := hcu
    refine ⟨_, rfl, _, rfl, _, _, _, _, rfl, rfl, SqL.of g1, atI_nat gv, ?_⟩
    refine ⟨_, rfl, a, _, ad, _, _, rfl, c1, T.cl_Cube, T.na_Cube_pile, lk_pile, rfl, _, rfl, ?_⟩
    have hPG := PG_eq hk hM hc
    have hsum : szP (PG E M k c) + (s.map fun c => szP (PG E M k c)).sum ≤ 127 := by simpa using hm
    rw [List.flatMap_cons] at hrow
    rw [List.map_cons, List.sum_cons] at hcost
    cases ha : (E c).answer with
    | some n =>
      rw [ha] at hPG c1
      refine ifNT (fun z => by cases z) ?_
      refine ⟨_, rfl, .inl ⟨rfl, _, SqL.of hrW⟩, _, rfl, a, _, ad, _, _, rfl, c1, T.cl_Cube, T.na_Cube_pile, lk_pile, by show 2 ≤ sizeLine; decide, fun lp hlp => ?_⟩
      have e3 := exn (o := .lst [V.int 0, V.int (n : Nat)]) hlp
      refine ⟨rp, lp, _, _, rfl, rfl, e3 _ _ hrW, upd_same, szl (by rw [hir]; show _ + 2 ≤ _; omega), ?_⟩
      have b3 : But [rp, wt] Hw _ := but_t (but_x e3) (but_u (o := .lst (iv rw ++ [V.int 0, V.int (n : Nat)])) ir)
      refine ⟨_, ?_, s, rw ++ [0, (n : Int)], cq, _, _, rfl, rfl, ?_, but_ex eW b3 hbad, ?_, (upd_ne (Ne.symm hrw)).trans (e3 _ _ hwW), hlt, ?_, ?_⟩
      · have := szP_pos (PG E M k c)
        simp
        omega
      · omega
      · rw [upd_same]
        exact congrArg (fun z => some (HO.lst z)) (iv_app rw [0, (n : Int)]).symm
      · rw [← hrow, hPG, List.append_assoc] <;> rfl
      · rw [← hcost, hPG]
        show _ = cq + (0 + _)
        omega
    | none =>
      rw [ha] at hPG c1
      refine ifNF rfl ?_
      have hm' := hM c hc ha
      obtain ⟨l1, l2, l3⟩ := open_lt hm'
      have hm6 := (open_in hm').1
      have hmv : ((List.range (3 ^ k)).map MV)[c]? = some (.int (M c : Nat)) := by
        rw [List.getElem?_map, List.getElem?_range hc, Option.map_some, hMV c hc ha]
      refine ⟨_, rfl, _, rfl, a, _, ad, _, _, rfl, c1, T.cl_Cube, T.na_Cube_cards, lk_cards, _, _, rfl, rfl, ?_⟩
      refine ⟨_, rfl, .inl ⟨rfl, _, SqL.of hrW⟩, _, rfl, _, rfl, _, _, _, _, rfl, rfl, SqL.of (eW _ _ hml), atI_nat hmv, _, _, rfl, rfl, rp, _, _, rfl, rfl, hrW, szs (by rw [hir]; omega), ?_⟩
      have b1 : But [rp, wt] Hw (upd Hw rp (.lst (iv rw ++ [V.int ((M c : Nat) + 1)]))) := but_u ir
      have e1' := but_ex eW b1 hbad
      have hw1 : (upd Hw rp (.lst (iv rw ++ [V.int ((M c : Nat) + 1)]))) wt = some (.lst (nvs s.reverse)) := (upd_ne (Ne.symm hrw)).trans hwW
      refine ⟨_, rfl, .inl ⟨rfl, _, SqL.of hw1⟩, _, rfl, _, rfl, _, rfl, _, _, _, _, rfl, rfl, SqL.of (e1' _ _ hml), atI_nat hmv, c, M c, rfl, by omega, by omega, wt, _, _, rfl, rfl, hw1, szs (by rw [nvs_len, List.length_reverse]; simp at hlen; omega), ?_⟩
      have b2 := but_t b1 (but_u (o := .lst (nvs s.reverse ++ [V.int (Vbenae.upper c (M c) : Nat)])) iw)
      have e2' := but_ex eW b2 hbad
      refine ⟨_, rfl, .inl ⟨rfl, _, SqL.of upd_same⟩, _, rfl, _, rfl, _, rfl, _, _, _, _, rfl, rfl, SqL.of (e2' _ _ hml), atI_nat hmv, c, M c, rfl, by omega, by omega, wt, _, _, rfl, rfl, upd_same, szs (by rw [List.length_append, nvs_len, List.length_reverse, List.length_singleton]; simp at hlen; omega), ?_⟩
      have b3 := but_t b2 (but_u (o := .lst (nvs s.reverse ++ [V.int (Vbenae.upper c (M c) : Nat)] ++ [V.int (Vbenae.lower c (M c) : Nat)])) iw)
      have hsz : szP (PG E M k c) = 1 + szP (PG E M k (Vbenae.lower c (M c))) + szP (PG E M k (Vbenae.upper c (M c))) := by rw [hPG] <;> rfl
      refine ⟨_, ?_, Vbenae.lower c (M c) :: Vbenae.upper c (M c) :: s, rw ++ [(M c : Int) + 1], cq + (E c).cards, _, _, rfl, rfl, ?_, but_ex eW b3 hbad, ?_, ?_, fun d hd => ?_, ?_, ?_⟩
      · simp
        omega
      · simp
        omega
      · rw [upd_ne hrw, upd_ne hrw, upd_same]
        exact congrArg (fun z => some (HO.lst z)) (iv_app rw [(M c : Int) + 1]).symm
      · rw [upd_same]
        exact congrArg (fun z => some (HO.lst z)) (by simp)
      · rcases List.mem_cons.mp hd with h | hd
        · rw [h]; omega
        rcases List.mem_cons.mp hd with h | hd
        · rw [h]; omega
        · exact hlt d hd
      · rw [← hrow, hPG, List.flatMap_cons, List.flatMap_cons, Vbenae.planRow]
        simp
      · rw [← hcost, hPG, List.map_cons, List.map_cons, List.sum_cons, List.sum_cons, costOn]
        omega
end
end N
namespace N
open PySem PySem.Spec PyProof.Rows L2 NX
open Vbenae (File Line Ask Plan)
/-! ### sums -/
theorem sum_add {α : Type} {a b d : α → Nat} : ∀ {l : List α}, (∀ x ∈ l, a x = b x + d x) → (l.map a).sum = (l.map b).sum + (l.map d).sum
  | [], _ => rfl
  | x :: r, h => by
    rw [List.map_cons, List.map_cons, List.map_cons, List.sum_cons, List.sum_cons, List.sum_cons, sum_add fun y hy => h y (List.mem_cons_of_mem _ hy), h x List.mem_cons_self]
    omega
theorem sum_congr {α : Type} {a b : α → Nat} {l : List α} (h : ∀ x ∈ l, a x = b x) : (l.map a).sum = (l.map b).sum := congrArg List.sum (List.map_congr_left h)
theorem sum_zero {α : Type} {a : α → Nat} {l : List α} (h : ∀ x ∈ l, a x = 0) : (l.map a).sum = 0 := by
  rw [sum_congr h]
  induction l with
  | nil => rfl
  | cons x r ih =>
    rw [List.map_cons, List.sum_cons, ih fun y hy => h y (List.mem_cons_of_mem _ hy)]
theorem cardsIn_sum (cs : List Line) (n : Nat) : cardsIn cs n = (cs.map fun x => if x.notching = n then x.count else 0).sum := by
  unfold cardsIn
  rw [foldl_add, Nat.zero_add]
  induction cs with
  | nil => rfl
  | cons x r ih =>
    rw [List.map_cons, List.sum_cons, ← ih, List.filter_cons]
    by_cases h : x.notching = n
    · rw [if_pos (by simpa using h), if_pos h, List.map_cons, List.sum_cons]
    · rw [if_neg (by simpa using h), if_neg h, Nat.zero_add]
/-! ### which notchings lie in a cube -/
def inC (k c n : Nat) : Bool := (List.range k).all fun m => Vbenae.digit c m == 2 || Vbenae.digit c m == n / 2 ^ m % 2
theorem inC_iff {k c n : Nat} : inC k c n = true ↔ ∀ m, m < k → Vbenae.digit c m = 2 ∨ Vbenae.digit c m = n / 2 ^ m % 2 := by
  unfold inC
  rw [List.all_eq_true]
  constructor
  · intro h m hm
    have := h m (List.mem_range.mpr hm)
    simpa using this
  · intro h m hm
    have := h m (List.mem_range.mp hm)
    simpa using this
theorem notched_iff {n m : Nat} : Vbenae.notched n m = true ↔ n / 2 ^ m % 2 = 1 := by
  unfold Vbenae.notched
  simp
theorem inC_lower {k c m n : Nat} (hk : k ≤ 6) (hc : c < 729) (hm : m < k) (h : Vbenae.digit c m = 2) : inC k (Vbenae.lower c m) n = (inC k c n && !Vbenae.notched n m) := by
  rw [Bool.eq_iff_iff, Bool.and_eq_true, inC_iff, inC_iff, Bool.not_eq_true', Bool.eq_false_iff, Ne, notched_iff]
  have hb : n / 2 ^ m % 2 < 2 := Nat.mod_lt _ (by decide)
  constructor
  · intro z
    refine ⟨fun j hj => ?_, ?_⟩
    · have := z j hj
      rw [(dig_half hc (by omega) (by omega) h).1] at this
      by_cases e : j = m
      · rw [e, h]; exact .inl rfl
      · rw [if_neg e] at this; exact this
    · have := z m hm
      rw [(dig_half hc (by omega) (by omega) h).1, if_pos rfl] at this
      omega
  · intro z j hj
    rw [(dig_half hc (by omega) (by omega) h).1]
    by_cases e : j = m
    · rw [if_pos e, e]; omega
    · rw [if_neg e]; exact z.1 j hj
theorem inC_upper {k c m n : Nat} (hk : k ≤ 6) (hc : c < 729) (hm : m < k) (h : Vbenae.digit c m = 2) : inC k (Vbenae.upper c m) n = (inC k c n && Vbenae.notched n m) := by
  rw [Bool.eq_iff_iff, Bool.and_eq_true, inC_iff, inC_iff, notched_iff]
  have hb : n / 2 ^ m % 2 < 2 := Nat.mod_lt _ (by decide)
  constructor
  · intro z
    refine ⟨fun j hj => ?_, ?_⟩
    · have := z j hj
      rw [(dig_half hc (by omega) (by omega) h).2] at this
      by_cases e : j = m
      · rw [e, h]; exact .inl rfl
      · rw [if_neg e] at this; exact this
    · have := z m hm
      rw [(dig_half hc (by omega) (by omega) h).2, if_pos rfl] at this
      omega
  · intro z j hj
    rw [(dig_half hc (by omega) (by omega) h).2]
    by_cases e : j = m
    · rw [if_pos e, e]; omega
    · rw [if_neg e]; exact z.1 j hj
theorem wholes : ((List.range 7).all fun k => (List.range k).all fun m => Vbenae.digit (3 ^ k - 1) m == 2) = true := by decide +kernel
theorem inC_whole {k n : Nat} (hk : k ≤ 6) : inC k (3 ^ k - 1) n = true := inC_iff.mpr fun m hm => by
  have := List.all_eq_true.mp (List.all_eq_true.mp wholes k (List.mem_range.mpr (by omega))) m (List.mem_range.mpr hm)
  exact .inl (by simpa using this)
theorem bits_fold (n : Nat) : ∀ (k a : Nat), (List.range k).foldr (fun m x => n / 2 ^ m % 2 + 2 * x) a = n % 2 ^ k + 2 ^ k * a
  | 0, a => by simp [Nat.mod_one]
  | k + 1, a => by
    rw [List.range_succ, List.foldr_append]
    show (List.range k).foldr _ (n / 2 ^ k % 2 + 2 * a) = _
    rw [bits_fold n k, Nat.mod_pow_succ, Nat.pow_succ, Nat.mul_add, ← Nat.add_assoc, Nat.mul_assoc]
theorem onlys : ((List.range 7).all fun k => (List.range (3 ^ k)).all fun c => if Vbenae.open_ k c = [] then (List.range k).all (fun m => Vbenae.digit c m == Vbenae.only k c / 2 ^ m % 2) else true) = true := by decide +kernel
theorem inC_only {k c n : Nat} (hk : k ≤ 6) (hc : c < 3 ^ k) (ho : Vbenae.open_ k c = []) (hn : n < 2 ^ k) : inC k c n = true ↔ n = Vbenae.only k c := by
  rw [inC_iff]
  have no : ∀ m, m < k → ¬ Vbenae.digit c m = 2 := fun m hm z => by
    have : m ∈ Vbenae.open_ k c := List.mem_filter.mpr ⟨List.mem_range.mpr hm, by rw [z]; rfl⟩
    rw [ho] at this
    simp at this
  constructor
  · intro h
    have e : Vbenae.only k c = (List.range k).foldr (fun m x => n / 2 ^ m % 2 + 2 * x) 0 := by
      unfold Vbenae.only
      have : ∀ (l : List Nat), (∀ m ∈ l, m < k) → l.foldr (fun m n => Vbenae.digit c m % 2 + 2 * n) 0 = l.foldr (fun m x => n / 2 ^ m % 2 + 2 * x) 0 := by
        intro l hl
        induction l with
        | nil => rfl
        | cons m r ih =>
          have hm := hl m List.mem_cons_self
          have hd := (h m hm).resolve_left (no m hm)
          rw [List.foldr_cons, List.foldr_cons, ih fun x hx => hl x (List.mem_cons_of_mem _ hx), hd, Nat.mod_mod]
      exact this _ fun m hm => List.mem_range.mp hm
    rw [e, bits_fold, Nat.mul_zero, Nat.add_zero, Nat.mod_eq_of_lt hn]
  · intro h m hm
    rw [h]
    have := List.all_eq_true.mp (List.all_eq_true.mp onlys k (List.mem_range.mpr (by omega))) c (List.mem_range.mpr hc)
    rw [if_pos ho] at this
    have := List.all_eq_true.mp this m (List.mem_range.mpr hm)
    exact .inr (by simpa using this)
/-! ### entries -/
section
variable {k : Nat} {cs : List Line} {as : List Ask} {E : Nat → Ent}
def IsTab (k : Nat) (cs : List Line) (as : List Ask) (E : Nat → Ent) : Prop := ∀ c, c < 3 ^ k → E c = entryA k cs as E c
theorem ent_none (hE : IsTab k cs as E) {c : Nat} (hc : c < 3 ^ k) (ha : (E c).answer = none) : Vbenae.open_ k c ≠ [] ∧ ∃ g : Nat → Nat, (∀ i, g i = (E c).cards + (E (Vbenae.lower c i)).least + (E (Vbenae.upper c i)).least) ∧ Vbenae.firstLeast ((Vbenae.open_ k c).map fun i => (g i, i)) = ((E c).least, (E c).mark) := by
  have h := hE c hc
  unfold entryA at h
  by_cases ho : Vbenae.open_ k c = []
  · rw [if_pos ho] at h
    rw [h] at ha
    cases ha
  · rw [if_neg ho] at h
    refine ⟨ho, fun i => (E c).cards + (E (Vbenae.lower c i)).least + (E (Vbenae.upper c i)).least, fun i => rfl, ?_⟩
    unfold joinE at h
    dsimp only at h
    by_cases hx : (E (Vbenae.lower c ((Vbenae.open_ k c).headD 0))).answer.isSome = true ∧ (E (Vbenae.lower c ((Vbenae.open_ k c).headD 0))).answer = (E (Vbenae.upper c ((Vbenae.open_ k c).headD 0))).answer
    · rw [if_pos hx] at h
      rw [h] at ha
      have h1 := hx.1
      rw [show (E (Vbenae.lower c ((Vbenae.open_ k c).headD 0))).answer = none from ha] at h1
      cases h1
    · rw [if_neg hx] at h
      have hk' : (E c).cards = (E (Vbenae.lower c ((Vbenae.open_ k c).headD 0))).cards + (E (Vbenae.upper c ((Vbenae.open_ k c).headD 0))).cards := by rw [h]
      have h1 := congrArg Vbenae.Entry.least h
      have h2 := congrArg Vbenae.Entry.mark h
      dsimp only at h1 h2
      rw [← hk'] at h1 h2
      rw [h1, h2]
theorem ent_some (hE : IsTab k cs as E) {c : Nat} (hc : c < 3 ^ k) {a : Nat} (ha : (E c).answer = some a) : (E c).least = 0 := by
  have h := hE c hc
  unfold entryA at h
  by_cases ho : Vbenae.open_ k c = []
  · rw [if_pos ho] at h
    rw [h]
  · rw [if_neg ho] at h
    unfold joinE at h
    dsimp only at h
    by_cases hx : (E (Vbenae.lower c ((Vbenae.open_ k c).headD 0))).answer.isSome = true ∧ (E (Vbenae.lower c ((Vbenae.open_ k c).headD 0))).answer = (E (Vbenae.upper c ((Vbenae.open_ k c).headD 0))).answer
    · rw [if_pos hx] at h
      rw [h]
    · rw [if_neg hx] at h
      rw [h] at ha
      cases ha
theorem ent_cards (hE : IsTab k cs as E) {c : Nat} (hc : c < 3 ^ k) : (Vbenae.open_ k c = [] ∧ (E c).cards = cardsIn cs (Vbenae.only k c)) ∨ ∃ m ∈ Vbenae.open_ k c, (E c).cards = (E (Vbenae.lower c m)).cards + (E (Vbenae.upper c m)).cards := by
  have h := congrArg Vbenae.Entry.cards (hE c hc)
  unfold entryA at h
  by_cases ho : Vbenae.open_ k c = []
  · rw [if_pos ho] at h
    exact .inl ⟨ho, h⟩
  · rw [if_neg ho] at h
    refine .inr ?_
    obtain ⟨m, r, hm⟩ : ∃ m r, Vbenae.open_ k c = m :: r := by
      cases h : Vbenae.open_ k c with
      | nil => exact absurd h ho
      | cons m r => exact ⟨m, r, rfl⟩
    rw [hm] at h ⊢
    refine ⟨m, List.mem_cons_self, ?_⟩
    unfold joinE at h
    dsimp only [List.headD_cons] at h
    split at h
    · exact h
    · exact h
theorem good_mark (hE : IsTab k cs as E) : GoodM E (fun c => (E c).mark) k := fun c hc ha => by
  obtain ⟨ho, g, hg, hf⟩ := ent_none hE hc ha
  obtain ⟨j, m, h1, h2, h3, h4⟩ := fl_spec _ g ho
  rw [h2] at hf
  have : m = (E c).mark := (Prod.mk.inj hf).2
  show (E c).mark ∈ _
  rw [← this]
  exact List.mem_of_getElem? h1
theorem good_even (hE : IsTab k cs as E) : GoodM E (evenE E k) k := fun c hc ha => by
  obtain ⟨ho, _⟩ := ent_none hE hc ha
  obtain ⟨j, m, h1, h2, h3, h4⟩ := fl_spec _ (fun m => max (E (Vbenae.lower c m)).cards (E (Vbenae.upper c m)).cards) ho
  unfold evenE
  rw [h2]
  exact List.mem_of_getElem? h1
/-- the least cost is the cost of the least plan -/
theorem least_cost (hk : k ≤ 6) (hE : IsTab k cs as E) : ∀ (n c : Nat), c ≤ n → c < 3 ^ k → costOn E (PG E (fun c => (E c).mark) k c) c = (E c).least := by
  intro n
  induction n with
  | zero =>
    intro c hn hc
    rw [PG_eq hk (good_mark hE) hc]
    cases ha : (E c).answer with
    | some a => exact (ent_some hE hc ha).symm
    | none =>
      have hm : (E c).mark ∈ Vbenae.open_ k c := good_mark hE c hc ha
      have := open_lt hm
      omega
  | succ n ih =>
    intro c hn hc
    rw [PG_eq hk (good_mark hE) hc]
    cases ha : (E c).answer with
    | some a => exact (ent_some hE hc ha).symm
    | none =>
      have hm : (E c).mark ∈ Vbenae.open_ k c := good_mark hE c hc ha
      obtain ⟨l1, l2, _⟩ := open_lt hm
      dsimp only
      rw [costOn, ih _ (by omega) (by omega), ih _ (by omega) (by omega)]
      obtain ⟨ho, g, hg, hf⟩ := ent_none hE hc ha
      obtain ⟨j, m, h1, h2, h3, h4⟩ := fl_spec _ g ho
      rw [h2] at hf
      obtain ⟨f1, f2⟩ := Prod.mk.inj hf
      rw [← f1, hg, f2]
/-- the cards of a cube -/
theorem cube_cards (hk : k ≤ 6) (hE : IsTab k cs as E) (hcs : ∀ x ∈ cs, x.notching < 2 ^ k) : ∀ (n c : Nat), c ≤ n → c < 3 ^ k → (E c).cards = (cs.map fun x => if inC k c x.notching = true then x.count else 0).sum := by
  have h9 := (pow3 hk).2
  intro n
  induction n with
  | zero =>
    intro c hn hc
    rcases ent_cards hE hc with ⟨ho, h⟩ | ⟨m, hm, h⟩
    · rw [h, cardsIn_sum]
      refine sum_congr fun x hx => ?_
      have := inC_only hk hc ho (hcs x hx)
      by_cases e : x.notching = Vbenae.only k c
      · rw [if_pos e, if_pos (this.mpr e)]
      · rw [if_neg e, if_neg (fun z => e (this.mp z))]
    · have := open_lt hm
      omega
  | succ n ih =>
    intro c hn hc
    rcases ent_cards hE hc with ⟨ho, h⟩ | ⟨m, hm, h⟩
    · rw [h, cardsIn_sum]
      refine sum_congr fun x hx => ?_
      have := inC_only hk hc ho (hcs x hx)
      by_cases e : x.notching = Vbenae.only k c
      · rw [if_pos e, if_pos (this.mpr e)]
      · rw [if_neg e, if_neg (fun z => e (this.mp z))]
    · obtain ⟨l1, l2, _⟩ := open_lt hm
      obtain ⟨o1, o2⟩ := open_in hm
      rw [h, ih _ (by omega) (by omega), ih _ (by omega) (by omega)]
      refine (sum_add fun x hx => ?_).symm
      rw [inC_lower hk (by omega) o1 o2, inC_upper hk (by omega) o1 o2]
      cases inC k c x.notching <;> cases Vbenae.notched x.notching m <;> simp
/-- what a plan out of the table costs -/
theorem plan_cost_on {M : Nat → Nat} (hk : k ≤ 6) (hE : IsTab k cs as E) (hcs : ∀ x ∈ cs, x.notching < 2 ^ k) (hM : GoodM E M k) : ∀ (n c : Nat), c ≤ n → c < 3 ^ k → costOn E (PG E M k c) c = (cs.map fun x => if inC k c x.notching = true then x.count * Vbenae.needlings (PG E M k c) x.notching else 0).sum := by
  have h9 := (pow3 hk).2
  intro n
  induction n with
  | zero =>
    intro c hn hc
    rw [PG_eq hk hM hc]
    cases ha : (E c).answer with
    | some a =>
      refine (sum_zero fun x hx => ?_).symm
      show (if _ then x.count * 0 else 0) = 0
      split <;> rfl
    | none =>
      have := open_lt (hM c hc ha)
      omega
  | succ n ih =>
    intro c hn hc
    rw [PG_eq hk hM hc]
    cases ha : (E c).answer with
    | some a =>
      refine (sum_zero fun x hx => ?_).symm
      show (if _ then x.count * 0 else 0) = 0
      split <;> rfl
    | none =>
      have hm := hM c hc ha
      obtain ⟨l1, l2, _⟩ := open_lt hm
      obtain ⟨o1, o2⟩ := open_in hm
      dsimp only
      rw [costOn, ih _ (by omega) (by omega), ih _ (by omega) (by omega), cube_cards hk hE hcs c c (Nat.le_refl _) hc]
      symm
      rw [Nat.add_assoc]
      refine (sum_add (b := fun x => if inC k c x.notching = true then x.count else 0) (d := fun x => (if inC k (Vbenae.lower c (M c)) x.notching = true then x.count * Vbenae.needlings (PG E M k (Vbenae.lower c (M c))) x.notching else 0) + (if inC k (Vbenae.upper c (M c)) x.notching = true then x.count * Vbenae.needlings (PG E M k (Vbenae.upper c (M c))) x.notching else 0)) fun x hx => ?_).trans (congrArg _ (sum_add fun x hx => rfl))
      rw [inC_lower hk (by omega) o1 o2, inC_upper hk (by omega) o1 o2, Vbenae.needlings]
      cases inC k c x.notching <;> cases Vbenae.notched x.notching (M c) <;> simp [Nat.mul_add]
end
end N
namespace N
open PySem PySem.Spec PyProof.Rows L2 NX
open Vbenae (File Line Ask Plan W Item)
theorem join_between (s : List Nat) : ∀ l : List (List Nat), TL.joinL s l = VbenCore.between s l
  | [] => rfl
  | [_] => rfl
  | p :: q :: r => by
    show p ++ (s ++ TL.joinL s (q :: r)) = p ++ s ++ VbenCore.between s (q :: r)
    rw [join_between s (q :: r), List.append_assoc]
theorem digits_up : ∀ (f n : Nat), 0 < n → n < 10 ^ f → ((VbenCore.digitsUp 10 f n).reverse).map (fun d => d + 48) = TL.numL n
  | 0, n, h0, h => by simp at h; omega
  | f + 1, n, h0, h => by
    rw [VbenCore.digitsUp, if_neg (by omega), List.reverse_cons, List.map_append]
    by_cases h10 : n < 10
    · have : n / 10 = 0 := by omega
      have e : VbenCore.digitsUp 10 f 0 = [] := by cases f <;> rfl
      rw [this, e, TL.numL_lt h10]
      show [n % 10 + 48] = [48 + n]
      rw [Nat.mod_eq_of_lt h10, Nat.add_comm]
    · rw [digits_up f (n / 10) (by omega) (by rw [Nat.pow_succ] at h; omega), TL.numL_step (n := n) (by omega)]
      show _ ++ [n % 10 + 48] = _ ++ [48 + n % 10]
      rw [Nat.add_comm]
theorem nat_text (n : Nat) : VbenCore.natText n = TL.numL n := by
  unfold VbenCore.natText
  by_cases h : n = 0
  · rw [if_pos h, h, TL.numL_lt (by decide)]
  · rw [if_neg h]
    unfold VbenCore.digitsFast VbenCore.lengthFuel
    refine digits_up _ n (by omega) ?_
    have h1 : n < 2 ^ (Nat.log2 n + 1) := Nat.lt_log2_self
    have h2 : 2 ^ (Nat.log2 n + 1) ≤ 10 ^ (Nat.log2 n + 1) := Nat.pow_le_pow_left (by decide) _
    have h3 : 10 ^ (Nat.log2 n + 1) ≤ 10 ^ (Nat.log2 n + 2) := Nat.pow_le_pow_right (by decide) (by omega)
    omega
theorem between_len (s : List Nat) : ∀ l : List (List Nat), (VbenCore.between s l).length ≤ (l.map (·.length)).sum + l.length * s.length
  | [] => by show 0 ≤ _; omega
  | [p] => by show p.length ≤ _; simp
  | p :: q :: r => by
    show (p ++ s ++ VbenCore.between s (q :: r)).length ≤ _
    have := between_len s (q :: r)
    rw [List.length_append, List.length_append, List.map_cons, List.sum_cons, List.length_cons, Nat.add_mul]
    omega
theorem sum_le {l : List (List Nat)} {b : Nat} (h : ∀ x ∈ l, x.length ≤ b) : (l.map (·.length)).sum ≤ l.length * b := by
  induction l with
  | nil => simp
  | cons x r ih =>
    have := h x List.mem_cons_self
    have := ih fun y hy => h y (List.mem_cons_of_mem _ hy)
    rw [List.map_cons, List.sum_cons, List.length_cons, Nat.add_mul]
    omega
theorem flat_tx_lens (l : List (List Nat)) (s : List Nat) : ((l.map SX.S).map (·.length)).sum + (l.map SX.S).length * (SX.S s).length = (l.map (·.length)).sum + l.length * s.length := by
  rw [SX.lens, List.length_map, SX.S_len]
theorem tx_map (l : List (List Nat)) : l.map tx = (l.map SX.S).map V.str := by rw [List.map_map] <;> rfl
/-- ' '.join(..) -/
theorem join_lit {s : List Nat} {l : List (List Nat)} {lit : Str} (h : lit = SX.S s) : Txt.join lit (l.map SX.S) = SX.S (VbenCore.between s l) := by
  rw [h, SX.join_S, join_between]
theorem join_size {s : List Nat} {l : List (List Nat)} {lit : Str} (h : lit = SX.S s) (hz : (l.map (·.length)).sum + l.length * s.length ≤ 16777216) : ((l.map SX.S).map (·.length)).sum + (l.map SX.S).length * lit.length ≤ 16777216 := by
  rw [h, flat_tx_lens]
  exact hz
theorem lit_sp : (" " : Str) = SX.S [32] := by decide +kernel
theorem lit_mk : ("marks" : Str) = SX.S (W "marks") := by decide +kernel
theorem lit_cd : ("cards" : Str) = SX.S (W "cards") := by decide +kernel
theorem lit_ak : ("ask " : Str) = SX.S (W "ask" ++ [32]) := by decide +kernel
def marksB (ms : List (List Nat)) (n : Nat) : List (List Nat) := ((List.range ms.length).filter (Vbenae.notched n)).map fun i => ms.getD i []
section
variable {P : Program} {w : World} {K : PySem.W.Frag} {mg : Str → Option Value} {base : Heap}
def sp_notched_marks : Sp := fun vs H Q _ => ∃ (m : Addr) (ms : List (List Nat)) (n : Nat), vs = [.ref m, .int n] ∧ H m = some (.lst (ms.map tx)) ∧ ms.length ≤ 6 ∧ ∀ H' p, Ex H H' → H' p = some (.lst ((marksB ms n).map tx)) → Q (.ref p) H'
theorem sc_notched_marks : FnScope ["marks", "notching", "number", "mark"] ["marks", "notching"] (defScope s_notched_marks) := C8.fnScope_by (by decide +kernel)
theorem c_notched_marks (T : Tx K mg) : Cal P w K mg base CX0 1 "notched_marks" a_notched_marks sp_notched_marks := by
  obtain ⟨fd, F⟩ := T.d_notched_marks
  refine ⟨⟨fd, ["marks", "notching"], F.ok sc_notched_marks (fun vs H Q E h => by obtain ⟨m, ms, n, rfl, _⟩ := h; rfl) (fun cdv A outer s H vs Q E hr h => ⟨_, pss_one (ps_ret (by exact (pe_lc (own := [("number", 2), ("mark", 3)]) (g := gTup K 2 (gCons (gName 2) (gCons (gName 3) (gNil)))) rfl sc_notched_marks.nd (pi_enum rfl T.f_enumerate (pa_cons (pv 0) pa_nil)) (blkOk_by (own := [("number", 2), ("mark", 3)]) (N := ["marks", "notching", "number", "mark"]) (sc := defScope s_notched_marks) (by decide +kernel)) (fun _ _ _ _ _ => by exact (pg_t2 (i1 := 2) (i2 := 3) rfl sc_notched_marks.nd rfl rfl rfl rfl)) (fun _ _ _ _ _ => by exact (pts_one (pt_cmpR op_eq (pe_op op_and (pe_op op_shr (pv 1) (pv 2)) pe_int) pe_int (nomark _)))) (fun _ _ _ _ _ => by exact (pv 3))))), ?_⟩), F.binds fun _ _ _ _ _ _ us hl => match us, hl with | [_, _], _ => rfl⟩, T.g_notched_marks, F.kp⟩
  obtain ⟨m, ms, n, rfl, hm, wm, q⟩ := h
  have hl : (ms.map tx).length = ms.length := List.length_map ..
  refine ⟨_, rfl, m, _, rfl, SqL.of hm, fun D hD => ?_⟩
  refine lc_val (walk_enum (K := K) (a := m) (xs := ms.map tx)) (fun i => if Vbenae.notched n i = true then some (tx (ms.getD i [])) else none) (by omega) hD (fun H2 e2 => SqL.of (e2 _ _ hm)) (fun i x H2 H' C C0 hi e2 y hC hC0 => ?_) (fun H2 e2 h2' => ?_)
  · obtain ⟨t, u, v, rfl, ht, rfl, hu, hv⟩ := y
    cases hu
    have hv' : (ms.map tx)[i]? = some v := hv
    rw [List.getElem?_map] at hv'
    obtain ⟨z, hz, rfl⟩ := Option.map_eq_some_iff.mp hv'
    have et := exn (o := .tup [.int (i : Nat), tx z]) ht
    have hgz : ms.getD i [] = z := by rw [List.getD_eq_getElem?_getD, hz] <;> rfl
    refine ⟨t, _, rfl, SqT.of upd_same, rfl, _, _, rfl, _, _, rfl, rfl, rfl, _, rfl, _, rfl, _, _, rfl, rfl, by omega, _, _, rfl, rfl, rfl, _, rfl, ?_⟩
    rw [Int.toNat_natCast]
    show if decide (V.int (Builtin.bitAnd ((n : Int) / 2 ^ i) 1) = V.int 1) = true then _ else _
    rw [bit_at]
    cases hb2 : Vbenae.notched n i with
    | false =>
      refine iteF (hC0 _ et ?_)
      show (if Vbenae.notched n i = true then _ else _) = _
      rw [hb2] <;> rfl
    | true =>
      refine iteT ⟨_, rfl, hC _ _ et ?_⟩
      show (if Vbenae.notched n i = true then _ else _) = _
      rw [hb2, hgz] <;> rfl
  · rw [hl, fm_filter] at h2'
    refine q _ D e2 ?_
    rw [h2']
    unfold marksB
    rw [List.map_map] <;> rfl
end
end N
namespace N
open PySem PySem.Spec PyProof.Rows L2 NX
open Vbenae (File Line Ask Plan W Item)
/-! ### the lines of a file's text -/
def headT (f : File) : List Nat := VbenCore.between [32] (W "marks" :: f.marks)
def cardT (f : File) (x : Line) : List Nat := Vbenae.itemText f (.cards x)
def askT (f : File) (x : List Nat × Ask) : List Nat := Vbenae.itemText f (.ask x.1 x.2)
theorem mark_len {f : File} (wf : Wf f) {m : List Nat} (h : m ∈ f.marks) : m.length ≤ 12 := (name_signs (mark_name (wf.names m h))).2
theorem words_len {l : List (List Nat)} (hl : l.length ≤ 8) (h : ∀ x ∈ l, x.length ≤ 12) : (l.map (·.length)).sum + l.length * ([32] : List Nat).length ≤ 104 := by
  have := sum_le h
  show _ + l.length * 1 ≤ 104
  have : l.length * 12 ≤ 8 * 12 := Nat.mul_le_mul_right _ hl
  omega
theorem head_ws {f : File} (wf : Wf f) : (W "marks" :: f.marks).length ≤ 8 ∧ ∀ x ∈ W "marks" :: f.marks, x.length ≤ 12 := ⟨by have := wf.marks; simp; omega, fun x hx => by
  rcases List.mem_cons.mp hx with h | h
  · rw [h]; decide +kernel
  · exact mark_len wf h⟩
theorem marksB_len {f : File} (wf : Wf f) (n : Nat) : (marksB f.marks n).length ≤ 6 ∧ ∀ x ∈ marksB f.marks n, x.length ≤ 12 := by
  refine ⟨?_, fun x hx => ?_⟩
  · unfold marksB
    rw [List.length_map]
    have := List.length_filter_le (Vbenae.notched n) (List.range f.marks.length)
    have h2 := wf.marks
    rw [List.length_range] at this
    omega
  · unfold marksB at hx
    obtain ⟨i, hi, rfl⟩ := List.mem_map.mp hx
    have hi2 : i < f.marks.length := List.mem_range.mp (List.mem_filter.mp hi).1
    rw [List.getD_eq_getElem?_getD, List.getElem?_eq_getElem hi2]
    exact mark_len wf (List.getElem_mem hi2)
theorem num_len {n : Nat} (h : n ≤ 1000000) : (TL.numL n).length ≤ 7 := TL.numL_len (by decide) (by omega)
theorem card_ws {f : File} (wf : Wf f) {x : Line} (hx : x.count ≤ 1000000) : (W "cards" :: TL.numL x.count :: marksB f.marks x.notching).length ≤ 8 ∧ ∀ y ∈ W "cards" :: TL.numL x.count :: marksB f.marks x.notching, y.length ≤ 12 := by
  obtain ⟨h1, h2⟩ := marksB_len wf x.notching
  refine ⟨by simp; omega, fun y hy => ?_⟩
  rcases List.mem_cons.mp hy with h | hy
  · rw [h]; decide +kernel
  rcases List.mem_cons.mp hy with h | hy
  · rw [h]
    have := num_len hx
    omega
  · exact h2 y hy
theorem cardT_eq (f : File) (x : Line) : cardT f x = VbenCore.between [32] (W "cards" :: TL.numL x.count :: marksB f.marks x.notching) := by
  unfold cardT
  rw [Vbenae.itemText, nat_text] <;> rfl
theorem askT_eq (f : File) (x : List Nat × Ask) : askT f x = W "ask" ++ [32] ++ x.1 ++ [32] ++ aT f.marks x.2 := by
  unfold askT
  rw [Vbenae.itemText, aT_eq]
  show W "ask" ++ [32] ++ (x.1 ++ [32] ++ aT f.marks x.2) = _
  simp
theorem askT_len {f : File} (wf : Wf f) {x : List Nat × Ask} (hx : x ∈ f.asks) : (askT f x).length ≤ 60020 := by
  obtain ⟨h1, h2⟩ := wf.ask x hx
  have := (name_signs h1).2
  rw [askT_eq]
  simp only [List.length_append]
  have : (W "ask").length = 3 := by decide +kernel
  simp
  omega
theorem cardT_len {f : File} (wf : Wf f) {x : Line} (hx : x.count ≤ 1000000) : (cardT f x).length ≤ 104 := by
  rw [cardT_eq]
  obtain ⟨h1, h2⟩ := card_ws wf hx
  exact Nat.le_trans (between_len _ _) (words_len h1 h2)
theorem headT_len {f : File} (wf : Wf f) : (headT f).length ≤ 104 := by
  obtain ⟨h1, h2⟩ := head_ws wf
  exact Nat.le_trans (between_len _ _) (words_len h1 h2)
def linesT (f : File) : List (List Nat) := headT f :: (f.cards.map (cardT f) ++ f.asks.map (askT f))
theorem fileText_eq (f : File) : Vbenae.fileText f = VbenCore.between [10] (linesT f) := rfl
theorem lines_len {f : File} (wf : Wf f) : ((linesT f).map (·.length)).sum + (linesT f).length * ([10] : List Nat).length ≤ 400000 := by
  have hc := wf.cards
  have ha := wf.asks
  have h1 := headT_len wf
  have h2 := sum_le (l := f.cards.map (cardT f)) (b := 104) fun x hx => by
    obtain ⟨y, hy, rfl⟩ := List.mem_map.mp hx
    exact cardT_len wf (wf.line y hy).1
  have h3 := sum_le (l := f.asks.map (askT f)) (b := 60020) fun x hx => by
    obtain ⟨y, hy, rfl⟩ := List.mem_map.mp hx
    exact askT_len wf hy
  rw [List.length_map] at h2 h3
  unfold linesT
  rw [List.map_cons, List.sum_cons, List.map_append, List.sum_append, List.length_cons, List.length_append, List.length_map, List.length_map]
  show _ + _ * 1 ≤ _
  have : f.cards.length * 104 ≤ 30 * 104 := Nat.mul_le_mul_right _ hc
  have : f.asks.length * 60020 ≤ 6 * 60020 := Nat.mul_le_mul_right _ ha
  omega
theorem file_len {f : File} (wf : Wf f) : (Vbenae.fileText f).length ≤ 400000 := by
  rw [fileText_eq]
  exact Nat.le_trans (between_len _ _) (lines_len wf)
section
variable {P : Program} {w : World} {K : PySem.W.Frag} {mg : Str → Option Value} {base : Heap}
def sp_one_text : Sp := fun vs H Q _ => ∃ a f, vs = [.ref a] ∧ FileAt H a f ∧ Wf f ∧ ∀ H', Ex H H' → Q (tx (Vbenae.fileText f)) H'
theorem sc_one_text : FnScope ["card_file", "lines", "count", "notching", "question"] ["card_file"] (defScope s_one_text) := C8.fnScope_by (by decide +kernel)
theorem c_one_text (T : Tx K mg) : Cal P w K mg base CX0 2 "one_text" a_one_text sp_one_text := by
  obtain ⟨fd, F⟩ := T.d_one_text
  refine ⟨⟨fd, ["card_file"], F.ok sc_one_text (fun vs H Q E h => by obtain ⟨a, f, rfl, _⟩ := h; rfl) (fun cdv A outer s H vs Q E hr h => ⟨_, pss_cons (ps_set (i := 1) sc_one_text.nd rfl (Or.inl rfl) (pe_lst (pa_cons (pe_join pe_str (pe_op op_cat (pe_lst (pa_cons pe_str pa_nil)) (pe_fld (pv 0) rfl))) pa_nil)))
    (pss_cons (ps_for PassesOwn.never rfl (pi_list (pe_fld (pv 0) rfl)) (pg_tup rfl (pgs_cons (pg_name (i := 2) sc_one_text.nd rfl (Or.inl rfl)) (pgs_cons (pg_name (i := 3) sc_one_text.nd rfl (Or.inl rfl)) pgs_nil)))
    (pss_one (ps_expr (pe_bm PySem.F.plainAttrs_list PySem.F.slot_list_append PySem.F.type_list_append mt_append (pv 1) (pa_cons (pe_join pe_str (pe_op op_cat (pe_lst (pa_cons pe_str (pa_cons (pe_callTy call_str_int rfl T.f_str (by decide +kernel) (pa_cons (pv 2) pa_nil)) pa_nil))) (pe_f (c_notched_marks T) hr (by decide) rfl (pa_cons (pe_fld (pv 0) rfl) (pa_cons (pv 3) pa_nil))))) pa_nil)))))
    (pss_cons (ps_for PassesOwn.never rfl (pi_list (pe_fld (pv 0) rfl)) (pg_name (i := 4) sc_one_text.nd rfl (Or.inl rfl))
    (pss_one (ps_expr (pe_bm PySem.F.plainAttrs_list PySem.F.slot_list_append PySem.F.type_list_append mt_append (pv 1) (pa_cons (pe_op op_add_str (pe_op op_add_str (pe_op op_add_str pe_str (pe_fld (pv 4) rfl)) pe_str) (pe_fld (pv 4) rfl)) pa_nil)))))
    (pss_one (ps_ret (pe_join pe_str (pv 1)))))), ?_⟩), F.binds fun _ _ _ _ _ _ us hl => match us, hl with | [_], _ => rfl⟩, T.g_one_text, F.kp⟩
  obtain ⟨a, f, rfl, hf, wf, q⟩ := h
  obtain ⟨dx, m, l, qq, ys, zs, h1, h2, h3, h4, h5, h6⟩ := id hf
  have hlm : (f.marks.map tx).length = f.marks.length := List.length_map ..
  have wm := wf.marks
  refine ⟨⟨_, rfl⟩, by show 1 ≤ sizeLine; decide, fun p0 hp0 => ?_⟩
  have e0 := exn (o := .lst [V.str "marks"]) hp0
  refine ⟨_, rfl, a, _, dx, _, _, rfl, e0 _ _ h1, T.cl_CardFile, T.na_CardFile_marks, rfl, _, _, _, _, rfl, rfl, upd_same, e0 _ _ h2, szl (by rw [hlm]; show 1 + _ ≤ _; omega), fun p1 hp1 => ?_⟩
  have e1 := exn (o := .lst ([V.str "marks"] ++ f.marks.map tx)) hp1
  have g1 : (upd (upd H p0 (.lst [V.str "marks"])) p1 (.lst ([V.str "marks"] ++ f.marks.map tx))) p1 = some (.lst ((W "marks" :: f.marks).map tx)) := by
    rw [upd_same, lit_mk] <;> rfl
  rw [tx_map (W "marks" :: f.marks)] at g1
  refine ⟨_, p1, _, rfl, rfl, .inl (SqL.of g1), join_size lit_sp (Nat.le_trans (words_len (head_ws wf).1 (head_ws wf).2) (by decide)), ?_⟩
  rw [join_lit lit_sp]
  refine ⟨by show 1 ≤ sizeLine; decide, fun lp hlp => ?_⟩
  have e2 := exn (o := .lst [tx (headT f)]) hlp
  have eA := ext (ext e0 e1) e2
  have nlp : H lp = none := frb (ext e0 e1) hlp
  refine ⟨_, rfl, a, _, dx, _, _, rfl, eA _ _ h1, T.cl_CardFile, T.na_CardFile_lines, rfl, l, rfl, ⟨_, SqL.of (eA _ _ h3)⟩, ?_⟩
  refine for_list (K := K) (a := l) (xs := ys) (fun i σ H' => ∃ u v z, σ = [some (.ref a), some (.ref lp), u, v, z] ∧ Ex H H' ∧ H' lp = some (.lst ((headT f :: (f.cards.take i).map (cardT f)).map tx)))
    ⟨_, _, _, rfl, eA, upd_same⟩ (fun i σ H' _ ⟨_, _, _, _, e, _⟩ => SqL.of (e _ _ h3)) ?_ ?_
  · rintro i y σ H' hi ⟨u, v, z, rfl, e, hl'⟩
    obtain ⟨x, hx, t, rfl, ht⟩ := h4.get' hi
    have hxl := wf.line x (List.mem_of_getElem? hx)
    obtain ⟨k1, k2⟩ := card_ws wf hxl.1
    have hcl := wf.cards
    refine ⟨t, _, rfl, SqT.of (e _ _ ht), rfl, _, _, rfl, _, _, rfl, rfl, ?_⟩
    refine ⟨_, rfl, .inl ⟨rfl, _, SqL.of hl'⟩, ⟨_, rfl⟩, _, rfl, _, rfl, Nat.lt_trans (show (((x.count : Nat) : Int).natAbs).log2 < 64 from ?_) (by decide), by show 2 ≤ sizeLine; decide, fun p3 hp3 => ?_⟩
    · rw [Int.natAbs_natCast]
      by_cases hx0 : x.count = 0
      · rw [hx0]; decide
      · exact (Nat.log2_lt hx0).mpr (by omega)
    rw [SX.num_S]
    have e3 := exn (o := .lst [V.str "cards", tx (TL.numL x.count)]) hp3
    refine ⟨_, rfl, a, _, dx, _, _, rfl, e3 _ _ (e _ _ h1), T.cl_CardFile, T.na_CardFile_marks, rfl, _, rfl, m, f.marks, x.notching, rfl, e3 _ _ (e _ _ h2), wm, fun H4 p4 e4 hp4 => ?_⟩
    obtain ⟨b1, b2⟩ := marksB_len wf x.notching
    refine ⟨_, _, _, _, rfl, rfl, e4 _ _ upd_same, hp4, szl (by rw [List.length_map]; show 2 + _ ≤ _; omega), fun p5 hp5 => ?_⟩
    have e5 := exn (o := .lst ([V.str "cards", tx (TL.numL x.count)] ++ (marksB f.marks x.notching).map tx)) hp5
    have g5 : (upd H4 p5 (.lst ([V.str "cards", tx (TL.numL x.count)] ++ (marksB f.marks x.notching).map tx))) p5 = some (.lst ((W "cards" :: TL.numL x.count :: marksB f.marks x.notching).map tx)) := by
      rw [upd_same, lit_cd] <;> rfl
    rw [tx_map (W "cards" :: TL.numL x.count :: marksB f.marks x.notching)] at g5
    refine ⟨_, p5, _, rfl, rfl, .inl (SqL.of g5), join_size lit_sp (Nat.le_trans (words_len k1 k2) (by decide)), ?_⟩
    rw [join_lit lit_sp]
    have eB := ext e3 (ext e4 e5)
    refine ⟨lp, _, _, rfl, rfl, eB _ _ hl', szs (by rw [List.length_map, List.length_cons, List.length_map, List.length_take]; omega), ?_⟩
    refine ⟨_, _, _, rfl, exm (ext e eB) nlp, ?_⟩
    rw [upd_same, take_more hx, List.map_append, ← List.cons_append, List.map_append, ← cardT_eq] <;> rfl
  · rintro σ H' ⟨u, v, z, rfl, e, hl'⟩
    rw [← h4.len, List.take_length] at hl'
    refine ⟨_, rfl, a, _, dx, _, _, rfl, e _ _ h1, T.cl_CardFile, T.na_CardFile_questions, rfl, qq, rfl, ⟨_, SqL.of (e _ _ h5)⟩, ?_⟩
    refine for_list (K := K) (a := qq) (xs := zs) (fun i σ H' => ∃ u v z, σ = [some (.ref a), some (.ref lp), u, v, z] ∧ Ex H H' ∧ H' lp = some (.lst ((headT f :: (f.cards.map (cardT f) ++ (f.asks.take i).map (askT f))).map tx)))
      ⟨_, _, _, rfl, e, by rw [hl']; simp⟩ (fun i σ H' _ ⟨_, _, _, _, e, _⟩ => SqL.of (e _ _ h5)) ?_ ?_
    · rintro i y σ H2 hi ⟨u2, v2, z2, rfl, ee, hl2⟩
      obtain ⟨x, hx, qa, qd, qt, rfl, r1, r2⟩ := h6.get' hi
      have hxm := List.mem_of_getElem? hx
      obtain ⟨n1, n2⟩ := wf.ask x hxm
      have n3 := (name_signs n1).2
      have hcl := wf.cards
      have hal := wf.asks
      have h3k : (W "ask" ++ [32]).length = 4 := by decide +kernel
      refine ⟨_, rfl, .inl ⟨rfl, _, SqL.of hl2⟩, _, rfl, qa, _, qd, _, _, rfl, ee _ _ r1, T.cl_Question, T.na_Question_name, rfl, _, _, rfl, rfl, ?_, _, _, rfl, rfl, ?_, _, rfl, qa, _, qd, _, _, rfl, ee _ _ r1, T.cl_Question, T.na_Question_spoken, rfl, _, _, rfl, rfl, ?_, ?_⟩
      · rw [lit_ak, SX.S_len, SX.S_len]
        exact szl (by omega)
      · rw [lit_ak, lit_sp, SX.S_cat, SX.S_len, SX.S_len, List.length_append]
        exact szl (by show _ + 1 ≤ _; omega)
      · rw [lit_ak, lit_sp, SX.S_cat, SX.S_cat, SX.S_len, SX.S_len, List.length_append, List.length_append]
        exact szl (by show _ + 1 + _ ≤ _; omega)
      · have ea : (("ask " : Str) ++ SX.S x.1 ++ (" " : Str) ++ SX.S (aT f.marks x.2)) = SX.S (askT f x) := by
          rw [lit_ak, lit_sp, SX.S_cat, SX.S_cat, SX.S_cat, askT_eq]
        refine ⟨lp, _, _, rfl, rfl, hl2, szs (by rw [List.length_map, List.length_cons, List.length_append, List.length_map, List.length_map, List.length_take]; omega), ?_⟩
        refine ⟨_, _, _, rfl, exm ee nlp, ?_⟩
        rw [upd_same, take_more hx, ea]
        simp
    · rintro σ H2 ⟨u2, v2, z2, rfl, ee, hl2⟩
      rw [← h6.len, List.take_length] at hl2
      refine ⟨⟨_, rfl⟩, _, rfl, ?_⟩
      have hl3 : H2 lp = some (.lst (((linesT f).map SX.S).map V.str)) := by rw [← tx_map]; exact hl2
      refine ⟨_, lp, _, rfl, rfl, .inl (SqL.of hl3), join_size lit_nl (Nat.le_trans (lines_len wf) (by decide)), ?_⟩
      rw [join_lit lit_nl]
      exact q H2 ee
end
end N
namespace N
open PySem PySem.Spec PyProof.Rows L2 NX
open Vbenae (File Line Ask Plan)
/-! ### frames of the calls: cursors and desks may change -/
def Fd (H H' : Hp) : Prop := ∀ a o, (∀ dx fs, o ≠ .ins a_Cursor dx fs) → (∀ dx fs, o ≠ .ins a_Desk dx fs) → H a = some o → H' a = some o
theorem fdx {H H' : Hp} (e : Ex H H') : Fd H H' := fun a o _ _ h => e a o h
theorem fdc {H H' : Hp} (e : Fr a_Cursor H H') : Fd H H' := fun a o n _ h => e a o n h
theorem fdt {H H1 H2 : Hp} (a : Fd H H1) (b : Fd H1 H2) : Fd H H2 := fun x o n m h => b x o n m (a x o n m h)
theorem fdr {H : Hp} : Fd H H := fun _ _ _ _ h => h
theorem fdu {H : Hp} {x dx : Addr} {fs fs' : List (Str × V)} (h : H x = some (.ins a_Desk dx fs)) : Fd H (upd H x (.ins a_Desk dx fs')) := fun a o _ n e => by
  rw [upd_ne (fun z => by rw [z, h] at e; exact n dx fs (Option.some.inj e).symm)]
  exact e
theorem Fd.lst {H H' : Hp} (e : Fd H H') {a : Addr} {xs : List V} (h : H a = some (.lst xs)) : H' a = some (.lst xs) := e _ _ (fun _ _ z => by cases z) (fun _ _ z => by cases z) h
theorem FileAt.fd {H H' : Hp} (e : Fd H H') {a : Addr} {f : File} (h : FileAt H a f) : FileAt H' a f := by
  obtain ⟨dx, m, l, q, ys, zs, h1, h2, h3, h4, h5, h6⟩ := h
  refine ⟨dx, m, l, q, ys, zs, e _ _ (fun _ _ z => by cases z) (fun _ _ z => by cases z) h1, e.lst h2, e.lst h3, h4.imp fun x v z => ?_, e.lst h5, h6.imp fun x v z => ?_⟩
  · obtain ⟨t, rfl, ht⟩ := z
    exact ⟨t, rfl, e _ _ (fun _ _ z => by cases z) (fun _ _ z => by cases z) ht⟩
  · obtain ⟨a, dx, t, rfl, h1, h2⟩ := z
    exact ⟨a, dx, t, rfl, e _ _ (fun _ _ z => by cases z) (fun _ _ z => by cases z) h1, e.lst h2⟩
theorem DeskAt.ex {H H' : Hp} (e : Ex H H') {d : Addr} {f : File} (h : DeskAt H d f) : DeskAt H' d f := by
  obtain ⟨dx, a, h1, h2⟩ := h
  exact ⟨dx, a, e _ _ h1, h2.ex e⟩
theorem DeskAt.fr {H H' : Hp} (e : Fr a_Cursor H H') {d : Addr} {f : File} (h : DeskAt H d f) : DeskAt H' d f := by
  obtain ⟨dx, a, h1, h2⟩ := h
  exact ⟨dx, a, e _ _ (fun _ _ z => by cases z) h1, h2.fr (by decide) (by decide) e⟩
/-! ### what a call is handed, what it gives -/
def RowAt (H : Hp) (r : List Int) (v : V) : Prop := ∃ a : Addr, v = .ref a ∧ H a = some (.lst (iv r))
def RowsAt (H : Hp) (p : Addr) (rows : List (List Int)) : Prop := ∃ zs, H p = some (.lst zs) ∧ Al (RowAt H) rows zs
theorem RowsAt.fd {H H' : Hp} (e : Fd H H') {p : Addr} {rows : List (List Int)} (h : RowsAt H p rows) : RowsAt H' p rows := by
  obtain ⟨zs, h1, h2⟩ := h
  refine ⟨zs, e.lst h1, h2.imp fun r v z => ?_⟩
  obtain ⟨a, rfl, ha⟩ := z
  exact ⟨a, rfl, e.lst ha⟩
structure Des (H : Hp) (d : Addr) (f : File) (np rp : Addr) (nums : List Int) (rows : List (List Int)) : Prop where
  desk : DeskAt H d f
  wf : Wf f
  hn : H np = some (.lst (iv nums))
  hr : RowsAt H rp rows
  short : ∀ r ∈ rows, r.length ≤ 3000
/-- a refusal of this number -/
def Rd (K : PySem.W.Frag) (mg : Str → Option Value) (H : Hp) (d : Addr) (f : File) (E : XK) (n : Int) : Prop := ∀ (x : Str) (C fI dd : Addr) (fs : List (Str × V)) (H' : Hp), OxC K mg x C fI → Fd H H' → DeskAt H' d f → H' dd = some (.xd fs) → fs.lookup ("number" : Str) = some (.int n) → E (.ref C) (some dd) H'
def Done (K : PySem.W.Frag) (mg : Str → Option Value) (H : Hp) (d : Addr) (f : File) (Q : VK) (E : XK) (r : Except Int (File × List Int)) : Prop := match r with
  | .ok x => ∀ H' p, Fd H H' → DeskAt H' d x.1 → Wf x.1 → H' p = some (.lst (iv x.2)) → Q (.ref p) H'
  | .error e => Rd K mg H d f E e
theorem lk_n1 {n : Int} : List.lookup ("number" : Str) [("number", V.int n)] = some (.int n) := by rfl
theorem lk_n2 {p n : Int} : List.lookup ("number" : Str) [("place", V.int p), ("number", V.int n)] = some (.int n) := by rfl
theorem Rd.rf {K : PySem.W.Frag} {mg : Str → Option Value} {H H1 : Hp} {d : Addr} {f : File} {E : XK} {n : Int} (h : Rd K mg H d f E n) (e : Fd H H1) (hd : DeskAt H1 d f) : Rf K mg H1 E n := fun x C fI dd H' o e' hdd => h x C fI dd _ H' o (fdt e (fdx e')) (hd.ex e') hdd lk_n1
theorem Rd.rt {K : PySem.W.Frag} {mg : Str → Option Value} (T : Tx K mg) {H H1 : Hp} {d : Addr} {f : File} {E : XK} {p : Nat} (h : Rd K mg H d f E (-1000 - (p : Int))) (e : Fd H H1) (hd : DeskAt H1 d f) : Rt H1 E p := fun dd H' fr hdd => h _ _ _ dd _ H' T.x_TextFault (fdt e (fdc fr)) (hd.fr fr) hdd lk_n2
theorem iv_ints (l : List Nat) : iv (VbenCore.ints l) = nvs l := List.map_map ..
/-- the shape of a call -/
abbrev Shp := List Int → List (List Int) → Vbenae.Call → Prop
def sp_do (K : PySem.W.Frag) (mg : Str → Option Value) (S : Shp) : Sp := fun vs H Q E => ∃ d np rp f nums rows c, vs = [.ref d, .ref np, .ref rp] ∧ S nums rows c ∧ Des H d f np rp nums rows ∧ Done K mg H d f Q E (Vbenae.run f c)
section
variable {P : Program} {w : World} {K : PySem.W.Frag} {mg : Str → Option Value} {base : Heap}
def S_clear : Shp := fun nums rows c => nums = [] ∧ rows = [] ∧ c = .clear
theorem wf_start : Wf Vbenae.start := ⟨by decide, List.nodup_nil, fun m hm => by simp [Vbenae.start] at hm, by decide, fun m hm => by simp [Vbenae.start] at hm, by decide, fun m hm => by simp [Vbenae.start] at hm⟩
theorem sc_do_clear : FnScope ["desk", "numbers", "rows"] ["desk", "numbers", "rows"] (defScope s_do_clear) := C8.fnScope_by (by decide +kernel)
theorem c_do_clear (T : Tx K mg) : Cal P w K mg base (L2.CX P w) 46 "do_clear" a_do_clear (sp_do K mg S_clear) := by
  obtain ⟨fd, F⟩ := T.d_do_clear
  refine ⟨⟨fd, ["desk", "numbers", "rows"], F.okX sc_do_clear (fun vs H Q E h => by obtain ⟨d, np, rp, f, nums, rows, c, rfl, _⟩ := h; rfl) (fun cdv A outer s H vs Q E hr h => ⟨_, pss_cons (ps_fld (pv 0) (pe_f0 (c_empty_file T) hr (by decide) rfl) rfl)
    (pss_one (ps_ret (pe_lst (pa_cons pe_int pa_nil)))), ?_⟩), F.binds fun _ _ _ _ _ _ us hl => match us, hl with | [_, _, _], _ => rfl⟩, T.g_do_clear, F.kp⟩
  obtain ⟨d, np, rp, f, nums, rows, c, rfl, ⟨rfl, rfl, rfl⟩, D, q⟩ := h
  obtain ⟨dx, a, h1, h2⟩ := D.desk
  refine ⟨rfl, fun H1 b e1 _ hf => ?_⟩
  refine ⟨_, rfl, d, _, dx, _, rfl, e1 _ _ h1, T.cl_Desk, T.na_Desk_card_file, (by show 1 < 1000; decide), ?_⟩
  refine ⟨by show 1 ≤ sizeLine; decide, fun p hp => ?_⟩
  have f1 : Fd H (upd H1 d (.ins a_Desk dx [("card_file", .ref b)])) := fdt (fdx e1) (fdu (e1 _ _ h1))
  have e2 := exn (o := .lst [V.int 0]) hp
  exact q _ p (fdt f1 (fdx e2)) ⟨dx, b, e2 _ _ upd_same, (hf.fd (fdu (e1 _ _ h1))).ex e2⟩ wf_start upd_same
def S_told : Shp := fun nums rows c => nums = [] ∧ rows = [] ∧ c = .told
theorem sc_do_told : FnScope ["desk", "numbers", "rows", "card_file"] ["desk", "numbers", "rows"] (defScope s_do_told) := C8.fnScope_by (by decide +kernel)
theorem c_do_told (T : Tx K mg) : Cal P w K mg base (L2.CX P w) 46 "do_told" a_do_told (sp_do K mg S_told) := by
  obtain ⟨fd, F⟩ := T.d_do_told
  refine ⟨⟨fd, ["desk", "numbers", "rows"], F.okX sc_do_told (fun vs H Q E h => by obtain ⟨d, np, rp, f, nums, rows, c, rfl, _⟩ := h; rfl) (fun cdv A outer s H vs Q E hr h => ⟨_, pss_cons (ps_set (i := 3) sc_do_told.nd rfl (Or.inl rfl) (pe_fld (pv 0) rfl))
    (pss_one (ps_ret (pe_lst (pa_cons (pe_callB call_len rfl T.f_len PySem.boot_len (pa_cons (pe_fld (pv 3) rfl) pa_nil)) (pa_cons (pe_callB call_len rfl T.f_len PySem.boot_len (pa_cons (pe_fld (pv 3) rfl) pa_nil)) (pa_cons (pe_callB call_len rfl T.f_len PySem.boot_len (pa_cons (pe_fld (pv 3) rfl) pa_nil)) (pa_cons (pe_f (c_count_cards T) hr (by decide) rfl (pa_cons (pv 3) pa_nil)) pa_nil))))))), ?_⟩), F.binds fun _ _ _ _ _ _ us hl => match us, hl with | [_, _, _], _ => rfl⟩, T.g_do_told, F.kp⟩
  obtain ⟨d, np, rp, f, nums, rows, c, rfl, ⟨rfl, rfl, rfl⟩, D, q⟩ := h
  obtain ⟨dx, a, h1, hf⟩ := id D.desk
  obtain ⟨dx2, m, l, qq, ys, zs, g1, g2, g3, g4, g5, g6⟩ := id hf
  have wf := D.wf
  refine ⟨_, rfl, d, _, dx, _, _, rfl, h1, T.cl_Desk, T.na_Desk_card_file, rfl, ?_⟩
  refine ⟨_, rfl, a, _, dx2, _, _, rfl, g1, T.cl_CardFile, T.na_CardFile_marks, rfl, _, _, rfl, .inl ⟨_, SqL.of g2, rfl⟩, ?_⟩
  refine ⟨_, rfl, a, _, dx2, _, _, rfl, g1, T.cl_CardFile, T.na_CardFile_lines, rfl, _, _, rfl, .inl ⟨_, SqL.of g3, rfl⟩, ?_⟩
  refine ⟨_, rfl, a, _, dx2, _, _, rfl, g1, T.cl_CardFile, T.na_CardFile_questions, rfl, _, _, rfl, .inl ⟨_, SqL.of g5, rfl⟩, ?_⟩
  refine ⟨_, rfl, a, f, rfl, hf, wf.cards, fun H1 e1 => ⟨by show 4 ≤ sizeLine; decide, fun p hp => ?_⟩⟩
  have e2 := exn (o := .lst [V.int ((f.marks.map tx).length : Nat), V.int (ys.length : Nat), V.int (zs.length : Nat), V.int (Vbenae.total f : Nat)]) hp
  refine q _ p (fdx (ext e1 e2)) (D.desk.ex (ext e1 e2)) wf ?_
  rw [upd_same, List.length_map, ← g4.len, ← g6.len] <;> rfl
end
end N
namespace N
open PySem PySem.Spec PyProof.Rows L2 NX
open Vbenae (File Line Ask Plan)
theorem askNo_ok {f : File} {q : Int} {n : Nat} (h : Vbenae.askNo f q = .ok n) : q = (n : Int) ∧ n < f.asks.length := by
  unfold Vbenae.askNo at h
  rw [bnd] at h
  cases hr : Vbenae.ranged q 0 5 with
  | error e => rw [hr] at h; cases h
  | ok m =>
    rw [hr] at h
    unfold Vbenae.ranged at hr
    split at hr
    · rename_i hb
      unfold VbenCore.isBetween at hb
      simp only [Bool.and_eq_true, decide_eq_true_eq] at hb
      cases hr
      dsimp only at h
      split at h
      · rename_i hl
        cases h
        exact ⟨by omega, hl⟩
      · cases h
    · cases hr
theorem askAt_of {f : File} {n : Nat} {x : List Nat × Ask} (h : f.asks[n]? = some x) : Vbenae.askAt f n = x.2 := by
  unfold Vbenae.askAt
  rw [h] <;> rfl
theorem truth_row (k : Nat) (a : Ask) : iv ((List.range (2 ^ k)).map fun n => Vbenae.flag (Vbenae.holds a n)) = nvs (truthN k a) := by
  unfold truthN
  show List.map _ (List.map _ _) = List.map _ (List.map _ _)
  rw [List.map_map, List.map_map]
  apply List.map_congr_left
  intro n _
  show V.int (if Vbenae.holds a n = true then 1 else 0) = V.int (((if Vbenae.holds a n = true then 1 else 0 : Nat)) : Int)
  split <;> rfl
theorem hangs_eq (k : Nat) (a : Ask) {m : Nat} (hm : m < k) : hangs k a m = (List.range (2 ^ k)).any fun n => !Vbenae.notched n m && Vbenae.holds a n != Vbenae.holds a (n + 2 ^ m) := by
  unfold hangs
  rw [Bool.eq_iff_iff, List.any_eq_true, List.any_eq_true]
  constructor
  · rintro ⟨n, hn, h⟩
    have hn' := List.mem_range.mp hn
    cases hb : Vbenae.notched n m with
    | false =>
      refine ⟨n, hn, ?_⟩
      unfold flip at h
      rw [hb, if_neg Bool.false_ne_true] at h
      rw [hb]
      simp only [bne_iff_ne, ne_eq] at h
      simp only [Bool.not_false, Bool.true_and, bne_iff_ne, ne_eq]
      exact fun z => h z.symm
    | true =>
      have hle := bit_le hb
      refine ⟨n - 2 ^ m, List.mem_range.mpr (Nat.lt_of_le_of_lt (Nat.sub_le _ _) hn'), ?_⟩
      unfold flip at h
      rw [hb, if_pos rfl] at h
      have hb2 : Vbenae.notched (n - 2 ^ m) m = false := by
        rw [Bool.eq_false_iff, Ne, notched_iff]
        rw [notched_iff] at hb
        have e : n / 2 ^ m = (n - 2 ^ m) / 2 ^ m + 1 := by
          have h2 := Nat.add_div_right (n - 2 ^ m) (Nat.pow_pos (by decide) : 0 < 2 ^ m)
          rw [Nat.sub_add_cancel hle] at h2
          exact h2
        omega
      rw [hb2, Nat.sub_add_cancel hle]
      simpa using h
  · rintro ⟨n, hn, h⟩
    rw [Bool.and_eq_true] at h
    have hb : Vbenae.notched n m = false := by simpa using h.1
    refine ⟨n, hn, ?_⟩
    unfold flip
    rw [hb, if_neg Bool.false_ne_true]
    have h2 := h.2
    simp only [bne_iff_ne, ne_eq] at h2 ⊢
    exact fun z => h2 z.symm
section
variable {P : Program} {w : World} {K : PySem.W.Frag} {mg : Str → Option Value} {base : Heap}
def S_drop : Shp := fun nums rows c => ∃ q, nums = [q] ∧ rows = [] ∧ c = .drop q
theorem wf_drop {f : File} (wf : Wf f) (n : Nat) : Wf { f with asks := f.asks.eraseIdx n } := ⟨wf.marks, wf.nodup, wf.names, wf.cards, wf.line, Nat.le_trans (List.length_eraseIdx_le ..) wf.asks, fun q hq => wf.ask q (List.mem_of_mem_eraseIdx hq)⟩
theorem sc_do_drop : FnScope ["desk", "numbers", "rows"] ["desk", "numbers", "rows"] (defScope s_do_drop) := C8.fnScope_by (by decide +kernel)
theorem c_do_drop (T : Tx K mg) : Cal P w K mg base (L2.CX P w) 46 "do_drop" a_do_drop (sp_do K mg S_drop) := by
  obtain ⟨fd, F⟩ := T.d_do_drop
  refine ⟨⟨fd, ["desk", "numbers", "rows"], F.okX sc_do_drop (fun vs H Q E h => by obtain ⟨d, np, rp, f, nums, rows, c, rfl, _⟩ := h; rfl) (fun cdv A outer s H vs Q E hr h => ⟨_, pss_cons (ps_expr (pe_fX (c_find_question T) hr (by decide) (passes_call (takes_of rfl rfl rfl rfl) fun _ _ _ _ z => z) rfl (pa_cons (pe_fld (pv 0) rfl) (pa_cons (pe_ix ix_list (pv 1) pe_int (fun _ _ => rfl)) pa_nil))))
    (pss_cons (ps_fld (pv 0) (pe_f (c_without_question T) hr (by decide) rfl (pa_cons (pe_fld (pv 0) rfl) (pa_cons (pe_ix ix_list (pv 1) pe_int (fun _ _ => rfl)) pa_nil))) rfl)
    (pss_one (ps_ret (pe_lst (pa_cons (pe_callB call_len rfl T.f_len PySem.boot_len (pa_cons (pe_fld (pe_fld (pv 0) rfl) rfl) pa_nil)) pa_nil))))), ?_⟩), F.binds fun _ _ _ _ _ _ us hl => match us, hl with | [_, _, _], _ => rfl⟩, T.g_do_drop, F.kp⟩
  obtain ⟨d, np, rp, f, nums, rows, c, rfl, ⟨z, rfl, rfl, rfl⟩, D, q⟩ := h
  obtain ⟨dx, a, h1, hf⟩ := id D.desk
  refine ⟨_, rfl, d, _, dx, _, _, rfl, h1, T.cl_Desk, T.na_Desk_card_file, rfl, _, rfl, _, _, _, _, rfl, rfl, SqL.of D.hn, rfl, a, f, z, rfl, hf, D.wf.asks, ?_⟩
  have hrun : Vbenae.run f (.drop z) = (Vbenae.askNo f z >>= fun n => .ok ({ f with asks := f.asks.eraseIdx n }, [((f.asks.length - 1 : Nat) : Int)])) := rfl
  rw [hrun, bnd] at q
  cases ha : Vbenae.askNo f z with
  | error e =>
    rw [ha] at q
    exact Rd.rf q fdr D.desk
  | ok n =>
    rw [ha] at q
    obtain ⟨rfl, hn⟩ := askNo_ok ha
    intro x v hx hv
    refine ⟨_, rfl, d, _, dx, _, _, rfl, h1, T.cl_Desk, T.na_Desk_card_file, rfl, _, rfl, _, _, _, _, rfl, rfl, SqL.of D.hn, rfl, a, f, n, rfl, hf, hn, D.wf.asks, fun H1 b e1 _ hf1 => ?_⟩
    refine ⟨_, rfl, d, _, dx, _, rfl, e1 _ _ h1, T.cl_Desk, T.na_Desk_card_file, (by show 1 < 1000; decide), ?_⟩
    have f1 : Fd H (upd H1 d (.ins a_Desk dx [("card_file", .ref b)])) := fdt (fdx e1) (fdu (e1 _ _ h1))
    have hf2 := hf1.fd (fdu (fs' := [("card_file", .ref b)]) (e1 _ _ h1))
    obtain ⟨dx2, m, l, qq, ys, zs, g1, g2, g3, g4, g5, g6⟩ := id hf2
    refine ⟨_, rfl, d, _, dx, _, _, rfl, upd_same, T.cl_Desk, T.na_Desk_card_file, rfl, b, _, dx2, _, _, rfl, g1, T.cl_CardFile, T.na_CardFile_questions, rfl, _, _, rfl, .inl ⟨_, SqL.of g5, rfl⟩, by show 1 ≤ sizeLine; decide, fun p hp => ?_⟩
    have e2 := exn (o := .lst [V.int (zs.length : Nat)]) hp
    refine q _ p (fdt f1 (fdx e2)) ⟨dx, b, e2 _ _ upd_same, hf2.ex e2⟩ (wf_drop D.wf n) ?_
    have hzl : zs.length = f.asks.length - 1 := by
      rw [← g6.len, List.length_eraseIdx, if_pos hn]
    rw [upd_same, hzl] <;> rfl
def S_truth : Shp := fun nums rows c => ∃ q, nums = [q] ∧ rows = [] ∧ c = .truth q
theorem sc_do_truth : FnScope ["desk", "numbers", "rows", "question"] ["desk", "numbers", "rows"] (defScope s_do_truth) := C8.fnScope_by (by decide +kernel)
theorem c_do_truth (T : Tx K mg) : Cal P w K mg base (L2.CX P w) 46 "do_truth" a_do_truth (sp_do K mg S_truth) := by
  obtain ⟨fd, F⟩ := T.d_do_truth
  refine ⟨⟨fd, ["desk", "numbers", "rows"], F.okX sc_do_truth (fun vs H Q E h => by obtain ⟨d, np, rp, f, nums, rows, c, rfl, _⟩ := h; rfl) (fun cdv A outer s H vs Q E hr h => ⟨_, pss_cons (ps_set (i := 3) sc_do_truth.nd rfl (Or.inl rfl) (pe_fX (c_find_question T) hr (by decide) (passes_call (takes_of rfl rfl rfl rfl) fun _ _ _ _ z => z) rfl (pa_cons (pe_fld (pv 0) rfl) (pa_cons (pe_ix ix_list (pv 1) pe_int (fun _ _ => rfl)) pa_nil))))
    (pss_one (ps_ret (pe_op op_cat (pe_lst (pa_cons (pe_callB call_len rfl T.f_len PySem.boot_len (pa_cons (pe_fld (pv 3) rfl) pa_nil)) pa_nil)) (pe_fld (pv 3) rfl)))), ?_⟩), F.binds fun _ _ _ _ _ _ us hl => match us, hl with | [_, _, _], _ => rfl⟩, T.g_do_truth, F.kp⟩
  obtain ⟨d, np, rp, f, nums, rows, c, rfl, ⟨z, rfl, rfl, rfl⟩, D, q⟩ := h
  obtain ⟨dx, a, h1, hf⟩ := id D.desk
  have hk := pow6 D.wf.marks
  refine ⟨_, rfl, d, _, dx, _, _, rfl, h1, T.cl_Desk, T.na_Desk_card_file, rfl, _, rfl, _, _, _, _, rfl, rfl, SqL.of D.hn, rfl, a, f, z, rfl, hf, D.wf.asks, ?_⟩
  have hrun : Vbenae.run f (.truth z) = (Vbenae.askNo f z >>= fun n => .ok (f, Vbenae.listRow ((Vbenae.notchings f).map fun m => Vbenae.flag (Vbenae.holds (Vbenae.askAt f n) m)))) := rfl
  rw [hrun, bnd] at q
  cases ha : Vbenae.askNo f z with
  | error e =>
    rw [ha] at q
    exact Rd.rf q fdr D.desk
  | ok n =>
    rw [ha] at q
    intro x v hx hv
    obtain ⟨qa, qd, qt, rfl, g1, g2⟩ := id hv
    refine ⟨_, rfl, qa, _, qd, _, _, rfl, g1, T.cl_Question, T.na_Question_truth, rfl, _, _, rfl, .inl ⟨_, SqL.of g2, rfl⟩, by show 1 ≤ sizeLine; decide, fun p0 hp0 => ?_⟩
    have e0 := exn (o := .lst [V.int ((nvs (truthN f.marks.length x.2)).length : Nat)]) hp0
    have hl : (nvs (truthN f.marks.length x.2)).length = 2 ^ f.marks.length := by rw [nvs_len, truthN_len]
    refine ⟨_, rfl, qa, _, qd, _, _, rfl, e0 _ _ g1, T.cl_Question, T.na_Question_truth, rfl, _, _, _, _, rfl, rfl, upd_same, e0 _ _ g2, szl (by rw [hl]; show 1 + _ ≤ _; omega), fun p hp => ?_⟩
    have e1 := exn (o := .lst ([V.int ((nvs (truthN f.marks.length x.2)).length : Nat)] ++ nvs (truthN f.marks.length x.2))) hp
    refine q _ p (fdx (ext e0 e1)) (D.desk.ex (ext e0 e1)) D.wf ?_
    rw [upd_same, hl]
    dsimp only
    rw [askAt_of hx]
    show _ = some (HO.lst (V.int (((List.range (2 ^ f.marks.length)).map fun m => Vbenae.flag (Vbenae.holds x.2 m)).length : Nat) :: iv ((List.range (2 ^ f.marks.length)).map fun m => Vbenae.flag (Vbenae.holds x.2 m))))
    rw [truth_row, List.length_map, List.length_range] <;> rfl
def S_falls : Shp := fun nums rows c => ∃ q, nums = [q] ∧ rows = [] ∧ c = .falls q
theorem sc_do_falls : FnScope ["desk", "numbers", "rows", "question"] ["desk", "numbers", "rows"] (defScope s_do_falls) := C8.fnScope_by (by decide +kernel)
theorem c_do_falls (T : Tx K mg) : Cal P w K mg base (L2.CX P w) 46 "do_falls" a_do_falls (sp_do K mg S_falls) := by
  obtain ⟨fd, F⟩ := T.d_do_falls
  refine ⟨⟨fd, ["desk", "numbers", "rows"], F.okX sc_do_falls (fun vs H Q E h => by obtain ⟨d, np, rp, f, nums, rows, c, rfl, _⟩ := h; rfl) (fun cdv A outer s H vs Q E hr h => ⟨_, pss_cons (ps_set (i := 3) sc_do_falls.nd rfl (Or.inl rfl) (pe_fX (c_find_question T) hr (by decide) (passes_call (takes_of rfl rfl rfl rfl) fun _ _ _ _ z => z) rfl (pa_cons (pe_fld (pv 0) rfl) (pa_cons (pe_ix ix_list (pv 1) pe_int (fun _ _ => rfl)) pa_nil))))
    (pss_one (ps_ret (pe_lst (pa_cons (pe_f (c_count_fallen T) hr (by decide) rfl (pa_cons (pe_fld (pv 0) rfl) (pa_cons (pv 3) pa_nil))) (pa_cons (pe_f (c_count_cards T) hr (by decide) rfl (pa_cons (pe_fld (pv 0) rfl) pa_nil)) pa_nil))))), ?_⟩), F.binds fun _ _ _ _ _ _ us hl => match us, hl with | [_, _, _], _ => rfl⟩, T.g_do_falls, F.kp⟩
  obtain ⟨d, np, rp, f, nums, rows, c, rfl, ⟨z, rfl, rfl, rfl⟩, D, q⟩ := h
  obtain ⟨dx, a, h1, hf⟩ := id D.desk
  refine ⟨_, rfl, d, _, dx, _, _, rfl, h1, T.cl_Desk, T.na_Desk_card_file, rfl, _, rfl, _, _, _, _, rfl, rfl, SqL.of D.hn, rfl, a, f, z, rfl, hf, D.wf.asks, ?_⟩
  have hrun : Vbenae.run f (.falls z) = (Vbenae.askNo f z >>= fun n => .ok (f, VbenCore.ints [Vbenae.falls f n, Vbenae.total f])) := rfl
  rw [hrun, bnd] at q
  cases ha : Vbenae.askNo f z with
  | error e =>
    rw [ha] at q
    exact Rd.rf q fdr D.desk
  | ok n =>
    rw [ha] at q
    intro x v hx hv
    refine ⟨_, rfl, d, _, dx, _, _, rfl, h1, T.cl_Desk, T.na_Desk_card_file, rfl, _, rfl, a, f, x, v, rfl, hf, D.wf, hv, fun H1 e1 => ?_⟩
    refine ⟨_, rfl, d, _, dx, _, _, rfl, e1 _ _ h1, T.cl_Desk, T.na_Desk_card_file, rfl, a, f, rfl, hf.ex e1, D.wf.cards, fun H2 e2 => ⟨by show 2 ≤ sizeLine; decide, fun p hp => ?_⟩⟩
    have e12 := ext e1 e2
    refine q _ p (fdx (ext e12 (exn hp))) (D.desk.ex (ext e12 (exn hp))) D.wf ?_
    rw [upd_same]
    have hfl : Vbenae.falls f n = ((f.cards.filter fun y => Vbenae.holds x.2 y.notching).map fun y => y.count).foldl (fun a b => a + b) 0 := by
      unfold Vbenae.falls
      rw [askAt_of hx]
    dsimp only
    rw [hfl] <;> rfl
def S_hangs : Shp := fun nums rows c => ∃ q, nums = [q] ∧ rows = [] ∧ c = .hangs q
theorem sc_do_hangs : FnScope ["desk", "numbers", "rows", "question", "marks"] ["desk", "numbers", "rows"] (defScope s_do_hangs) := C8.fnScope_by (by decide +kernel)
theorem c_do_hangs (T : Tx K mg) : Cal P w K mg base (L2.CX P w) 46 "do_hangs" a_do_hangs (sp_do K mg S_hangs) := by
  obtain ⟨fd, F⟩ := T.d_do_hangs
  refine ⟨⟨fd, ["desk", "numbers", "rows"], F.okX sc_do_hangs (fun vs H Q E h => by obtain ⟨d, np, rp, f, nums, rows, c, rfl, _⟩ := h; rfl) (fun cdv A outer s H vs Q E hr h => ⟨_, pss_cons (ps_set (i := 3) sc_do_hangs.nd rfl (Or.inl rfl) (pe_fX (c_find_question T) hr (by decide) (passes_call (takes_of rfl rfl rfl rfl) fun _ _ _ _ z => z) rfl (pa_cons (pe_fld (pv 0) rfl) (pa_cons (pe_ix ix_list (pv 1) pe_int (fun _ _ => rfl)) pa_nil))))
    (pss_cons (ps_set (i := 4) sc_do_hangs.nd rfl (Or.inl rfl) (pe_f (c_hung_on T) hr (by decide) rfl (pa_cons (pe_fld (pv 0) rfl) (pa_cons (pv 3) pa_nil))))
    (pss_one (ps_ret (pe_op op_cat (pe_lst (pa_cons (pe_callB call_len rfl T.f_len PySem.boot_len (pa_cons (pv 4) pa_nil)) pa_nil)) (pv 4))))), ?_⟩), F.binds fun _ _ _ _ _ _ us hl => match us, hl with | [_, _, _], _ => rfl⟩, T.g_do_hangs, F.kp⟩
  obtain ⟨d, np, rp, f, nums, rows, c, rfl, ⟨z, rfl, rfl, rfl⟩, D, q⟩ := h
  obtain ⟨dx, a, h1, hf⟩ := id D.desk
  refine ⟨_, rfl, d, _, dx, _, _, rfl, h1, T.cl_Desk, T.na_Desk_card_file, rfl, _, rfl, _, _, _, _, rfl, rfl, SqL.of D.hn, rfl, a, f, z, rfl, hf, D.wf.asks, ?_⟩
  have hrun : Vbenae.run f (.hangs z) = (Vbenae.askNo f z >>= fun n => .ok (f, Vbenae.listRow (VbenCore.ints ((List.range (Vbenae.size f)).filter (Vbenae.hangsOn f n))))) := rfl
  rw [hrun, bnd] at q
  cases ha : Vbenae.askNo f z with
  | error e =>
    rw [ha] at q
    exact Rd.rf q fdr D.desk
  | ok n =>
    rw [ha] at q
    intro x v hx hv
    refine ⟨_, rfl, d, _, dx, _, _, rfl, h1, T.cl_Desk, T.na_Desk_card_file, rfl, _, rfl, a, f, x, v, rfl, hf, D.wf.marks, hv, fun H1 hp e1 _ g1 => ?_⟩
    have hfe : (List.range (Vbenae.size f)).filter (Vbenae.hangsOn f n) = (List.range f.marks.length).filter (hangs f.marks.length x.2) := by
      apply List.filter_congr
      intro m hm
      rw [hangs_eq f.marks.length x.2 (show m < f.marks.length from List.mem_range.mp hm)]
      unfold Vbenae.hangsOn
      rw [askAt_of hx] <;> rfl
    dsimp only at q
    rw [hfe] at q
    generalize hL : (List.range f.marks.length).filter (hangs f.marks.length x.2) = L at *
    have hLl : L.length ≤ 6 := by
      rw [← hL]
      have := List.length_filter_le (hangs f.marks.length x.2) (List.range f.marks.length)
      rw [List.length_range] at this
      have := D.wf.marks
      omega
    refine ⟨_, rfl, _, _, rfl, .inl ⟨_, SqL.of g1, rfl⟩, by show 1 ≤ sizeLine; decide, fun p0 hp0 => ?_⟩
    have e2 := exn (o := .lst [V.int ((nvs L).length : Nat)]) hp0
    refine ⟨_, rfl, _, _, _, _, rfl, rfl, upd_same, e2 _ _ g1, szl (by rw [nvs_len]; show 1 + _ ≤ _; omega), fun p hp2 => ?_⟩
    have e3 := exn (o := .lst ([V.int ((nvs L).length : Nat)] ++ nvs L)) hp2
    have ee := ext e1 (ext e2 e3)
    refine q _ p (fdx ee) (D.desk.ex ee) D.wf ?_
    rw [upd_same, nvs_len]
    show _ = some (HO.lst (V.int ((VbenCore.ints L).length : Nat) :: iv (VbenCore.ints L)))
    rw [iv_ints, show (VbenCore.ints L).length = L.length from List.length_map ..] <;> rfl
end
end N
namespace N
open PySem PySem.Spec PyProof.Rows L2 NX
open Vbenae (File Line Ask Plan)
theorem walk_range0 {n : Nat} : Walk (Itr 0 n) n (fun _ => True) (YFn fun i => .int (i : Nat)) := (walk_range (lo := 0) (n := n)).mono (fun _ h => h) fun i H x H' _ _ y => ⟨y.1, y.2.trans (congrArg V.int (Int.zero_add _))⟩
theorem firstOr_iv (x : Option Nat) : iv (Vbenae.firstOr x) = (match x with | none => [V.int 1] | some n => [V.int 0, V.int (n : Nat)]) := by cases x <;> rfl
theorem bit_ne {a b : Bool} : (V.int (((if a = true then 1 else 0 : Nat)) : Int) = V.int (((if b = true then 1 else 0 : Nat)) : Int)) ↔ a = b := by
  cases a <;> cases b <;> simp
section
variable {P : Program} {w : World} {K : PySem.W.Frag} {mg : Str → Option Value} {base : Heap}
def S_equal : Shp := fun nums rows c => ∃ q r, nums = [q, r] ∧ rows = [] ∧ c = .equal q r
theorem sc_do_equal : FnScope ["desk", "numbers", "rows", "one", "other", "notching"] ["desk", "numbers", "rows"] (defScope s_do_equal) := C8.fnScope_by (by decide +kernel)
theorem c_do_equal (T : Tx K mg) : Cal P w K mg base (L2.CX P w) 46 "do_equal" a_do_equal (sp_do K mg S_equal) := by
  obtain ⟨fd, F⟩ := T.d_do_equal
  refine ⟨⟨fd, ["desk", "numbers", "rows"], F.okX sc_do_equal (fun vs H Q E h => by obtain ⟨d, np, rp, f, nums, rows, c, rfl, _⟩ := h; rfl) (fun cdv A outer s H vs Q E hr h => ⟨_, pss_cons (ps_set (i := 3) sc_do_equal.nd rfl (Or.inl rfl) (pe_fX (c_find_question T) hr (by decide) (passes_call (takes_of rfl rfl rfl rfl) fun _ _ _ _ z => z) rfl (pa_cons (pe_fld (pv 0) rfl) (pa_cons (pe_ix ix_list (pv 1) pe_int (fun _ _ => rfl)) pa_nil))))
    (pss_cons (ps_set (i := 4) sc_do_equal.nd rfl (Or.inl rfl) (pe_fX (c_find_question T) hr (by decide) (passes_call (takes_of rfl rfl rfl rfl) fun _ _ _ _ z => z) rfl (pa_cons (pe_fld (pv 0) rfl) (pa_cons (pe_ix ix_list (pv 1) pe_int (fun _ _ => rfl)) pa_nil))))
    (pss_cons (ps_for (passes_of rfl) rfl (pi_range1 rfl T.f_range (pa_cons (pe_callB call_len rfl T.f_len PySem.boot_len (pa_cons (pe_fld (pv 3) rfl) pa_nil)) pa_nil)) (pg_name (i := 5) sc_do_equal.nd rfl (Or.inl rfl))
    (pss_one (ps_if (pt_cmpR op_ne (pe_ix ix_list (pe_fld (pv 3) rfl) (pv 5) (fun _ _ => rfl)) (pe_ix ix_list (pe_fld (pv 4) rfl) (pv 5) (fun _ _ => rfl)) (nomark _)) (pss_one (ps_ret (pe_lst (pa_cons pe_int (pa_cons (pv 5) pa_nil))))) pss_nil)))
    (pss_one (ps_ret (pe_lst (pa_cons pe_int pa_nil)))))), ?_⟩), F.binds fun _ _ _ _ _ _ us hl => match us, hl with | [_, _, _], _ => rfl⟩, T.g_do_equal, F.kp⟩
  obtain ⟨d, np, rp, f, nums, rows, c, rfl, ⟨z, z2, rfl, rfl, rfl⟩, D, q⟩ := h
  obtain ⟨dx, a, h1, hf⟩ := id D.desk
  have hk := pow6 D.wf.marks
  refine ⟨_, rfl, d, _, dx, _, _, rfl, h1, T.cl_Desk, T.na_Desk_card_file, rfl, _, rfl, _, _, _, _, rfl, rfl, SqL.of D.hn, rfl, a, f, z, rfl, hf, D.wf.asks, ?_⟩
  have hrun : Vbenae.run f (.equal z z2) = (Vbenae.askNo f z >>= fun n => Vbenae.askNo f z2 >>= fun n2 => .ok (f, Vbenae.firstOr ((Vbenae.notchings f).find? fun m => Vbenae.holds (Vbenae.askAt f n) m != Vbenae.holds (Vbenae.askAt f n2) m))) := rfl
  rw [hrun, bnd] at q
  cases ha : Vbenae.askNo f z with
  | error e =>
    rw [ha] at q
    exact Rd.rf q fdr D.desk
  | ok n =>
    rw [ha] at q
    dsimp only at q
    rw [bnd] at q
    intro x v hx hv
    refine ⟨_, rfl, d, _, dx, _, _, rfl, h1, T.cl_Desk, T.na_Desk_card_file, rfl, _, rfl, _, _, _, _, rfl, rfl, SqL.of D.hn, rfl, a, f, z2, rfl, hf, D.wf.asks, ?_⟩
    cases ha2 : Vbenae.askNo f z2 with
    | error e =>
      rw [ha2] at q
      exact Rd.rf q fdr D.desk
    | ok n2 =>
      rw [ha2] at q
      dsimp only at q
      rw [askAt_of hx] at q
      intro y v2 hy hv2
      rw [askAt_of hy] at q
      obtain ⟨qa, qd, qt, rfl, g1, g2⟩ := id hv
      obtain ⟨ya, yd, yt, rfl, y1, y2⟩ := id hv2
      have hl : (nvs (truthN f.marks.length x.2)).length = 2 ^ f.marks.length := by rw [nvs_len, truthN_len]
      refine ⟨_, rfl, qa, _, qd, _, _, rfl, g1, T.cl_Question, T.na_Question_truth, rfl, _, _, rfl, .inl ⟨_, SqL.of g2, rfl⟩, ?_⟩
      rw [hl]
      refine ⟨_, rfl, by omega, by omega, ?_⟩
      refine for_it (walk_range0 (n := 2 ^ f.marks.length)) (fun i σ H' => ∃ u, σ = [some (.ref d), some (.ref np), some (.ref rp), some (.ref qa), some (.ref ya), u] ∧ H' = H ∧ ∀ m, m < i → (Vbenae.holds x.2 m != Vbenae.holds y.2 m) = false)
        ⟨_, rfl, rfl, fun m hm => by omega⟩ (fun _ _ _ _ _ => trivial) ?_ ?_
      · rintro i yy σ H2 H' hi ⟨u, rfl, rfl, hno⟩ ⟨rfl, rfl⟩
        refine ⟨_, rfl, qa, _, qd, _, _, rfl, g1, T.cl_Question, T.na_Question_truth, rfl, _, rfl, _, _, _, _, rfl, rfl, SqL.of g2, atI_nat (nvs_at (truthN_at hi)), _, rfl, ya, _, yd, _, _, rfl, y1, T.cl_Question, T.na_Question_truth, rfl, _, rfl, _, _, _, _, rfl, rfl, SqL.of y2, atI_nat (nvs_at (truthN_at hi)), rfl, _, rfl, ?_⟩
        by_cases cc : Vbenae.holds x.2 i = Vbenae.holds y.2 i
        · refine ifNF (bit_ne.mpr cc) ⟨_, rfl, rfl, fun m hm => ?_⟩
          by_cases hm2 : m = i
          · rw [hm2, cc]; simp
          · exact hno m (by omega)
        · refine ifNT (fun w => cc (bit_ne.mp w)) ⟨_, rfl, by show 2 ≤ sizeLine; decide, fun p hp => ?_⟩
          have e1 := exn (o := .lst [V.int 0, V.int (i : Nat)]) hp
          have hfd : (Vbenae.notchings f).find? (fun m => Vbenae.holds x.2 m != Vbenae.holds y.2 m) = some i := find_at hi hno (by simpa using cc)
          rw [hfd] at q
          exact q _ p (fdx e1) (D.desk.ex e1) D.wf upd_same
      · rintro σ H' ⟨u, rfl, rfl, hno⟩
        refine ⟨by show 1 ≤ sizeLine; decide, fun p hp => ?_⟩
        have e1 := exn (o := .lst [V.int 1]) hp
        have hfd : (Vbenae.notchings f).find? (fun m => Vbenae.holds x.2 m != Vbenae.holds y.2 m) = none := find_no hno
        rw [hfd] at q
        exact q _ p (fdx e1) (D.desk.ex e1) D.wf upd_same
theorem bit_gt {a b : Bool} : ((((if b = true then 1 else 0 : Nat)) : Int) < (((if a = true then 1 else 0 : Nat)) : Int)) ↔ (a && !b) = true := by
  cases a <;> cases b <;> simp
def S_within : Shp := fun nums rows c => ∃ q r, nums = [q, r] ∧ rows = [] ∧ c = .within q r
theorem sc_do_within : FnScope ["desk", "numbers", "rows", "inner", "outer", "notching"] ["desk", "numbers", "rows"] (defScope s_do_within) := C8.fnScope_by (by decide +kernel)
theorem c_do_within (T : Tx K mg) : Cal P w K mg base (L2.CX P w) 46 "do_within" a_do_within (sp_do K mg S_within) := by
  obtain ⟨fd, F⟩ := T.d_do_within
  refine ⟨⟨fd, ["desk", "numbers", "rows"], F.okX sc_do_within (fun vs H Q E h => by obtain ⟨d, np, rp, f, nums, rows, c, rfl, _⟩ := h; rfl) (fun cdv A outer s H vs Q E hr h => ⟨_, pss_cons (ps_set (i := 3) sc_do_within.nd rfl (Or.inl rfl) (pe_fX (c_find_question T) hr (by decide) (passes_call (takes_of rfl rfl rfl rfl) fun _ _ _ _ z => z) rfl (pa_cons (pe_fld (pv 0) rfl) (pa_cons (pe_ix ix_list (pv 1) pe_int (fun _ _ => rfl)) pa_nil))))
    (pss_cons (ps_set (i := 4) sc_do_within.nd rfl (Or.inl rfl) (pe_fX (c_find_question T) hr (by decide) (passes_call (takes_of rfl rfl rfl rfl) fun _ _ _ _ z => z) rfl (pa_cons (pe_fld (pv 0) rfl) (pa_cons (pe_ix ix_list (pv 1) pe_int (fun _ _ => rfl)) pa_nil))))
    (pss_cons (ps_for (passes_of rfl) rfl (pi_range1 rfl T.f_range (pa_cons (pe_callB call_len rfl T.f_len PySem.boot_len (pa_cons (pe_fld (pv 3) rfl) pa_nil)) pa_nil)) (pg_name (i := 5) sc_do_within.nd rfl (Or.inl rfl))
    (pss_one (ps_if (pt_cmpR op_gt (pe_ix ix_list (pe_fld (pv 3) rfl) (pv 5) (fun _ _ => rfl)) (pe_ix ix_list (pe_fld (pv 4) rfl) (pv 5) (fun _ _ => rfl)) (nomark _)) (pss_one (ps_ret (pe_lst (pa_cons pe_int (pa_cons (pv 5) pa_nil))))) pss_nil)))
    (pss_one (ps_ret (pe_lst (pa_cons pe_int pa_nil)))))), ?_⟩), F.binds fun _ _ _ _ _ _ us hl => match us, hl with | [_, _, _], _ => rfl⟩, T.g_do_within, F.kp⟩
  obtain ⟨d, np, rp, f, nums, rows, c, rfl, ⟨z, z2, rfl, rfl, rfl⟩, D, q⟩ := h
  obtain ⟨dx, a, h1, hf⟩ := id D.desk
  have hk := pow6 D.wf.marks
  refine ⟨_, rfl, d, _, dx, _, _, rfl, h1, T.cl_Desk, T.na_Desk_card_file, rfl, _, rfl, _, _, _, _, rfl, rfl, SqL.of D.hn, rfl, a, f, z, rfl, hf, D.wf.asks, ?_⟩
  have hrun : Vbenae.run f (.within z z2) = (Vbenae.askNo f z >>= fun n => Vbenae.askNo f z2 >>= fun n2 => .ok (f, Vbenae.firstOr ((Vbenae.notchings f).find? fun m => Vbenae.holds (Vbenae.askAt f n) m && !Vbenae.holds (Vbenae.askAt f n2) m))) := rfl
  rw [hrun, bnd] at q
  cases ha : Vbenae.askNo f z with
  | error e =>
    rw [ha] at q
    exact Rd.rf q fdr D.desk
  | ok n =>
    rw [ha] at q
    dsimp only at q
    rw [bnd] at q
    intro x v hx hv
    refine ⟨_, rfl, d, _, dx, _, _, rfl, h1, T.cl_Desk, T.na_Desk_card_file, rfl, _, rfl, _, _, _, _, rfl, rfl, SqL.of D.hn, rfl, a, f, z2, rfl, hf, D.wf.asks, ?_⟩
    cases ha2 : Vbenae.askNo f z2 with
    | error e =>
      rw [ha2] at q
      exact Rd.rf q fdr D.desk
    | ok n2 =>
      rw [ha2] at q
      dsimp only at q
      rw [askAt_of hx] at q
      intro y v2 hy hv2
      rw [askAt_of hy] at q
      obtain ⟨qa, qd, qt, rfl, g1, g2⟩ := id hv
      obtain ⟨ya, yd, yt, rfl, y1, y2⟩ := id hv2
      have hl : (nvs (truthN f.marks.length x.2)).length = 2 ^ f.marks.length := by rw [nvs_len, truthN_len]
      refine ⟨_, rfl, qa, _, qd, _, _, rfl, g1, T.cl_Question, T.na_Question_truth, rfl, _, _, rfl, .inl ⟨_, SqL.of g2, rfl⟩, ?_⟩
      rw [hl]
      refine ⟨_, rfl, by omega, by omega, ?_⟩
      refine for_it (walk_range0 (n := 2 ^ f.marks.length)) (fun i σ H' => ∃ u, σ = [some (.ref d), some (.ref np), some (.ref rp), some (.ref qa), some (.ref ya), u] ∧ H' = H ∧ ∀ m, m < i → (Vbenae.holds x.2 m && !Vbenae.holds y.2 m) = false)
        ⟨_, rfl, rfl, fun m hm => by omega⟩ (fun _ _ _ _ _ => trivial) ?_ ?_
      · rintro i yy σ H2 H' hi ⟨u, rfl, rfl, hno⟩ ⟨rfl, rfl⟩
        refine ⟨_, rfl, qa, _, qd, _, _, rfl, g1, T.cl_Question, T.na_Question_truth, rfl, _, rfl, _, _, _, _, rfl, rfl, SqL.of g2, atI_nat (nvs_at (truthN_at hi)), _, rfl, ya, _, yd, _, _, rfl, y1, T.cl_Question, T.na_Question_truth, rfl, _, rfl, _, _, _, _, rfl, rfl, SqL.of y2, atI_nat (nvs_at (truthN_at hi)), _, _, rfl, rfl, _, rfl, ?_⟩
        by_cases cc : (Vbenae.holds x.2 i && !Vbenae.holds y.2 i) = true
        · refine ifT (bit_gt.mpr cc) ⟨_, rfl, by show 2 ≤ sizeLine; decide, fun p hp => ?_⟩
          have e1 := exn (o := .lst [V.int 0, V.int (i : Nat)]) hp
          have hfd : (Vbenae.notchings f).find? (fun m => Vbenae.holds x.2 m && !Vbenae.holds y.2 m) = some i := find_at hi hno cc
          rw [hfd] at q
          exact q _ p (fdx e1) (D.desk.ex e1) D.wf upd_same
        · refine ifF (fun w => cc (bit_gt.mp w)) ⟨_, rfl, rfl, fun m hm => ?_⟩
          by_cases hm2 : m = i
          · rw [hm2]; exact Bool.eq_false_iff.mpr cc
          · exact hno m (by omega)
      · rintro σ H' ⟨u, rfl, rfl, hno⟩
        refine ⟨by show 1 ≤ sizeLine; decide, fun p hp => ?_⟩
        have e1 := exn (o := .lst [V.int 1]) hp
        have hfd : (Vbenae.notchings f).find? (fun m => Vbenae.holds x.2 m && !Vbenae.holds y.2 m) = none := find_no hno
        rw [hfd] at q
        exact q _ p (fdx e1) (D.desk.ex e1) D.wf upd_same
def S_text : Shp := fun nums rows c => nums = [] ∧ rows = [] ∧ c = .text
theorem sc_do_text : FnScope ["desk", "numbers", "rows", "sign"] ["desk", "numbers", "rows"] (defScope s_do_text) := C8.fnScope_by (by decide +kernel)
theorem c_do_text (T : Tx K mg) : Cal P w K mg base (L2.CX P w) 46 "do_text" a_do_text (sp_do K mg S_text) := by
  obtain ⟨fd, F⟩ := T.d_do_text
  refine ⟨⟨fd, ["desk", "numbers", "rows"], F.okX sc_do_text (fun vs H Q E h => by obtain ⟨d, np, rp, f, nums, rows, c, rfl, _⟩ := h; rfl) (fun cdv A outer s H vs Q E hr h => ⟨_, pss_one (ps_ret (pe_op op_cat (pe_lst (pa_cons pe_int pa_nil)) (by exact (pe_lc (own := [("sign", 3)]) (g := gName 3) rfl sc_do_text.nd (pi_str (pe_f (c_one_text T) hr (by decide) rfl (pa_cons (pe_fld (pv 0) rfl) pa_nil))) (blkOk_by (own := [("sign", 3)]) (N := ["desk", "numbers", "rows", "sign"]) (sc := defScope s_do_text) (by decide +kernel)) (fun _ _ _ _ _ => by exact (pg_name (i := 3) sc_do_text.nd rfl (Or.inl rfl))) (fun _ _ _ _ _ => by exact pts_nil) (fun _ _ _ _ _ => by exact (pe_callB call_ord rfl T.f_ord (by decide +kernel) (pa_cons (pv 3) pa_nil))))))), ?_⟩), F.binds fun _ _ _ _ _ _ us hl => match us, hl with | [_, _, _], _ => rfl⟩, T.g_do_text, F.kp⟩
  obtain ⟨d, np, rp, f, nums, rows, c, rfl, ⟨rfl, rfl, rfl⟩, D, q⟩ := h
  obtain ⟨dx, a, h1, hf⟩ := id D.desk
  have hfl := file_len D.wf
  have hrun : Vbenae.run f .text = .ok (f, 0 :: VbenCore.ints (Vbenae.fileText f)) := rfl
  rw [hrun] at q
  refine ⟨by show 1 ≤ sizeLine; decide, fun p0 hp0 => ?_⟩
  have e0 := exn (o := .lst [V.int 0]) hp0
  refine ⟨_, rfl, d, _, dx, _, _, rfl, e0 _ _ h1, T.cl_Desk, T.na_Desk_card_file, rfl, a, f, rfl, hf.ex e0, D.wf, fun H1 e1 => ⟨_, rfl, fun E0' hE0 => ?_⟩⟩
  refine lc_map (walk_str (z := SX.S (Vbenae.fileText f))) (fun i => (Vbenae.fileText f)[i]?.elim .non fun c => .int (c : Nat)) (by show (Vbenae.fileText f).length < _; omega) hE0 (fun _ _ => trivial) (fun i x H2 H' C hi e2 y hC => ?_) (fun H2 e2 h2' => ?_)
  · obtain ⟨rfl, c, hc, rfl⟩ := y
    refine ⟨rfl, _, rfl, _, rfl, rfl, ?_⟩
    have := hC _ exr
    have hc2 : (Vbenae.fileText f)[i]? = some c := by
      have : (SX.S (Vbenae.fileText f)).cps[i]? = (Vbenae.fileText f)[i]? := List.getElem?_toArray ..
      rw [← this]; exact hc
    rw [hc2] at this
    exact this
  · have hsz : (SX.S (Vbenae.fileText f)).cps.size = (Vbenae.fileText f).length := rfl
    rw [hsz, range_map] at h2'
    refine ⟨_, _, _, _, rfl, rfl, e2 _ _ (e1 _ _ upd_same), h2', szl (by rw [List.length_map]; show 1 + _ ≤ _; omega), fun p hp => ?_⟩
    have e3 := exn (o := .lst ([V.int 0] ++ (Vbenae.fileText f).map fun c => V.int (c : Nat))) hp
    have ee := ext e0 (ext e1 (ext e2 e3))
    refine q _ p (fdx ee) (D.desk.ex ee) D.wf ?_
    rw [upd_same]
    show _ = some (HO.lst (V.int 0 :: iv (VbenCore.ints (Vbenae.fileText f))))
    rw [iv_ints] <;> rfl
end
end N
namespace N
open PySem PySem.Spec PyProof.Rows L2 NX
open Vbenae (File Line Ask Plan)
theorem textIn_ok {t : List Int} {b : List Nat} (h : Vbenae.textIn t = .ok b) : iv t = nvs b ∧ b.length ≤ 2000 := by
  unfold Vbenae.textIn VbenCore.bytesIn at h
  split at h
  · rename_i b' hb
    cases h
    split at hb
    · rename_i hc
      cases hb
      refine ⟨?_, by rw [List.length_map]; exact hc.2⟩
      show List.map _ t = List.map _ (List.map _ t)
      rw [List.map_map]
      apply List.map_congr_left
      intro z hz
      have := List.all_eq_true.mp hc.1 z hz
      unfold VbenCore.isBetween at this
      simp only [Bool.and_eq_true, decide_eq_true_eq] at this
      show V.int z = V.int ((z.toNat : Nat) : Int)
      congr 1
      omega
    · cases hb
  · cases h
theorem row_one {H : Hp} {p : Addr} {r : List Int} (h : RowsAt H p [r]) : ∃ a : Addr, H p = some (.lst [.ref a]) ∧ H a = some (.lst (iv r)) := by
  obtain ⟨zs, h1, h2⟩ := h
  match zs, h2 with
  | [v], ⟨⟨a, ha, hb⟩, _⟩ => exact ⟨a, by rw [h1, ha], hb⟩
theorem row_two {H : Hp} {p : Addr} {r r2 : List Int} (h : RowsAt H p [r, r2]) : ∃ a b : Addr, H p = some (.lst [.ref a, .ref b]) ∧ H a = some (.lst (iv r)) ∧ H b = some (.lst (iv r2)) := by
  obtain ⟨zs, h1, h2⟩ := h
  match zs, h2 with
  | [v, u], ⟨⟨a, ha, hb⟩, ⟨c, hc, hd⟩, _⟩ => exact ⟨a, c, by rw [h1, ha, hc], hb, hd⟩
section
variable {P : Program} {w : World} {K : PySem.W.Frag} {mg : Str → Option Value} {base : Heap}
def S_file : Shp := fun nums rows c => ∃ t, nums = [] ∧ rows = [t] ∧ c = .file t
theorem sc_do_file : FnScope ["desk", "numbers", "rows"] ["desk", "numbers", "rows"] (defScope s_do_file) := C8.fnScope_by (by decide +kernel)
theorem c_do_file (T : Tx K mg) : Cal P w K mg base (L2.CX P w) 46 "do_file" a_do_file (sp_do K mg S_file) := by
  obtain ⟨fd, F⟩ := T.d_do_file
  refine ⟨⟨fd, ["desk", "numbers", "rows"], F.okX sc_do_file (fun vs H Q E h => by obtain ⟨d, np, rp, f, nums, rows, c, rfl, _⟩ := h; rfl) (fun cdv A outer s H vs Q E hr h => ⟨_, pss_cons (ps_expr (pe_fX (c_check_text T) hr (by decide) (passes_call (takes_of rfl rfl rfl rfl) fun _ _ _ _ z => z) rfl (pa_cons (pe_ix ix_list (pv 2) pe_int (fun _ _ => rfl)) pa_nil)))
    (pss_cons (ps_fld (pv 0) (pe_fX (c_read_file T) hr (by decide) (passes_call (takes_of rfl rfl rfl rfl) fun _ _ _ _ z => z) rfl (pa_cons (pe_ix ix_list (pv 2) pe_int (fun _ _ => rfl)) pa_nil)) rfl)
    (pss_one (ps_ret (pe_lst (pa_cons (pe_callB call_len rfl T.f_len PySem.boot_len (pa_cons (pe_fld (pe_fld (pv 0) rfl) rfl) pa_nil)) (pa_cons (pe_callB call_len rfl T.f_len PySem.boot_len (pa_cons (pe_fld (pe_fld (pv 0) rfl) rfl) pa_nil)) (pa_cons (pe_callB call_len rfl T.f_len PySem.boot_len (pa_cons (pe_fld (pe_fld (pv 0) rfl) rfl) pa_nil)) pa_nil))))))), ?_⟩), F.binds fun _ _ _ _ _ _ us hl => match us, hl with | [_, _, _], _ => rfl⟩, T.g_do_file, F.kp⟩
  obtain ⟨d, np, rp, f, nums, rows, c, rfl, ⟨t, rfl, rfl, rfl⟩, D, q⟩ := h
  obtain ⟨dx, a, h1, hf⟩ := id D.desk
  obtain ⟨ra, r1, r2⟩ := row_one D.hr
  have hrun : Vbenae.run f (.file t) = (Vbenae.textIn t >>= fun b => match Vbenae.readFile b with
      | .error p => .error (-1000 - (p : Int))
      | .ok g => .ok (g, VbenCore.ints [Vbenae.size g, g.cards.length, g.asks.length])) := rfl
  rw [hrun, bnd] at q
  refine ⟨_, rfl, _, _, _, _, rfl, rfl, SqL.of r1, rfl, ra, t, rfl, r2, ?_⟩
  cases ht : Vbenae.textIn t with
  | error e =>
    rw [ht] at q
    exact Rd.rf q fdr D.desk
  | ok b =>
    rw [ht] at q
    dsimp only at q
    obtain ⟨t1, t2⟩ := textIn_ok ht
    rw [t1] at r2
    refine ⟨_, rfl, _, _, _, _, rfl, rfl, SqL.of r1, rfl, ra, b, rfl, r2, t2, ?_⟩
    cases hr : Vbenae.readFile b with
    | error p =>
      rw [hr] at q
      exact Rd.rt T q fdr D.desk
    | ok g =>
      rw [hr] at q
      intro H1 b1 f1 hf1 wf1
      have hd1 : H1 d = some (.ins a_Desk dx [("card_file", .ref a)]) := f1 _ _ (fun _ _ z => by cases z) h1
      refine ⟨_, rfl, d, _, dx, _, rfl, hd1, T.cl_Desk, T.na_Desk_card_file, (by show 1 < 1000; decide), ?_⟩
      have f2 : Fd H (upd H1 d (.ins a_Desk dx [("card_file", .ref b1)])) := fdt (fdc f1) (fdu hd1)
      have hf2 := hf1.fd (fdu (fs' := [("card_file", .ref b1)]) hd1)
      obtain ⟨dx2, m, l, qq, ys, zs, g1, g2, g3, g4, g5, g6⟩ := id hf2
      refine ⟨_, rfl, d, _, dx, _, _, rfl, upd_same, T.cl_Desk, T.na_Desk_card_file, rfl, b1, _, dx2, _, _, rfl, g1, T.cl_CardFile, T.na_CardFile_marks, rfl, _, _, rfl, .inl ⟨_, SqL.of g2, rfl⟩, ?_⟩
      refine ⟨_, rfl, d, _, dx, _, _, rfl, upd_same, T.cl_Desk, T.na_Desk_card_file, rfl, b1, _, dx2, _, _, rfl, g1, T.cl_CardFile, T.na_CardFile_lines, rfl, _, _, rfl, .inl ⟨_, SqL.of g3, rfl⟩, ?_⟩
      refine ⟨_, rfl, d, _, dx, _, _, rfl, upd_same, T.cl_Desk, T.na_Desk_card_file, rfl, b1, _, dx2, _, _, rfl, g1, T.cl_CardFile, T.na_CardFile_questions, rfl, _, _, rfl, .inl ⟨_, SqL.of g5, rfl⟩, by show 3 ≤ sizeLine; decide, fun p hp => ?_⟩
      have e2 := exn (o := .lst [V.int ((g.marks.map tx).length : Nat), V.int (ys.length : Nat), V.int (zs.length : Nat)]) hp
      refine q _ p (fdt f2 (fdx e2)) ⟨dx, b1, e2 _ _ upd_same, hf2.ex e2⟩ wf1 ?_
      rw [upd_same, List.length_map, ← g4.len, ← g6.len] <;> rfl
def S_put : Shp := fun nums rows c => ∃ t, nums = [] ∧ rows = [t] ∧ c = .put t
theorem sc_do_put : FnScope ["desk", "numbers", "rows"] ["desk", "numbers", "rows"] (defScope s_do_put) := C8.fnScope_by (by decide +kernel)
theorem c_do_put (T : Tx K mg) : Cal P w K mg base (L2.CX P w) 46 "do_put" a_do_put (sp_do K mg S_put) := by
  obtain ⟨fd, F⟩ := T.d_do_put
  refine ⟨⟨fd, ["desk", "numbers", "rows"], F.okX sc_do_put (fun vs H Q E h => by obtain ⟨d, np, rp, f, nums, rows, c, rfl, _⟩ := h; rfl) (fun cdv A outer s H vs Q E hr h => ⟨_, pss_cons (ps_expr (pe_fX (c_check_text T) hr (by decide) (passes_call (takes_of rfl rfl rfl rfl) fun _ _ _ _ z => z) rfl (pa_cons (pe_ix ix_list (pv 2) pe_int (fun _ _ => rfl)) pa_nil)))
    (pss_cons (ps_fld (pv 0) (pe_fX (c_read_put T) hr (by decide) (passes_call (takes_of rfl rfl rfl rfl) fun _ _ _ _ z => z) rfl (pa_cons (pe_ix ix_list (pv 2) pe_int (fun _ _ => rfl)) (pa_cons (pe_fld (pv 0) rfl) pa_nil))) rfl)
    (pss_one (ps_ret (pe_lst (pa_cons (pe_callB call_len rfl T.f_len PySem.boot_len (pa_cons (pe_fld (pe_fld (pv 0) rfl) rfl) pa_nil)) (pa_cons (pe_callB call_len rfl T.f_len PySem.boot_len (pa_cons (pe_fld (pe_fld (pv 0) rfl) rfl) pa_nil)) pa_nil)))))), ?_⟩), F.binds fun _ _ _ _ _ _ us hl => match us, hl with | [_, _, _], _ => rfl⟩, T.g_do_put, F.kp⟩
  obtain ⟨d, np, rp, f, nums, rows, c, rfl, ⟨t, rfl, rfl, rfl⟩, D, q⟩ := h
  obtain ⟨dx, a, h1, hf⟩ := id D.desk
  obtain ⟨ra, r1, r2⟩ := row_one D.hr
  have hrun : Vbenae.run f (.put t) = (Vbenae.textIn t >>= fun b => match Vbenae.readItem f b with
      | .error p => .error (-1000 - (p : Int))
      | .ok x => .ok (Vbenae.putItem f x, VbenCore.ints [(Vbenae.putItem f x).cards.length, (Vbenae.putItem f x).asks.length])) := rfl
  rw [hrun, bnd] at q
  refine ⟨_, rfl, _, _, _, _, rfl, rfl, SqL.of r1, rfl, ra, t, rfl, r2, ?_⟩
  cases ht : Vbenae.textIn t with
  | error e =>
    rw [ht] at q
    exact Rd.rf q fdr D.desk
  | ok b =>
    rw [ht] at q
    dsimp only at q
    obtain ⟨t1, t2⟩ := textIn_ok ht
    rw [t1] at r2
    refine ⟨_, rfl, _, _, _, _, rfl, rfl, SqL.of r1, rfl, _, rfl, d, _, dx, _, _, rfl, h1, T.cl_Desk, T.na_Desk_card_file, rfl, ra, b, a, f, rfl, r2, t2, hf, D.wf, ?_⟩
    cases hr : Vbenae.readItem f b with
    | error p =>
      rw [hr] at q
      exact Rd.rt T q fdr D.desk
    | ok g =>
      rw [hr] at q
      intro H1 b1 f1 hf1 wf1
      have hd1 : H1 d = some (.ins a_Desk dx [("card_file", .ref a)]) := f1 _ _ (fun _ _ z => by cases z) h1
      refine ⟨_, rfl, d, _, dx, _, rfl, hd1, T.cl_Desk, T.na_Desk_card_file, (by show 1 < 1000; decide), ?_⟩
      have f2 : Fd H (upd H1 d (.ins a_Desk dx [("card_file", .ref b1)])) := fdt (fdc f1) (fdu hd1)
      have hf2 := hf1.fd (fdu (fs' := [("card_file", .ref b1)]) hd1)
      obtain ⟨dx2, m, l, qq, ys, zs, g1, g2, g3, g4, g5, g6⟩ := id hf2
      refine ⟨_, rfl, d, _, dx, _, _, rfl, upd_same, T.cl_Desk, T.na_Desk_card_file, rfl, b1, _, dx2, _, _, rfl, g1, T.cl_CardFile, T.na_CardFile_lines, rfl, _, _, rfl, .inl ⟨_, SqL.of g3, rfl⟩, ?_⟩
      refine ⟨_, rfl, d, _, dx, _, _, rfl, upd_same, T.cl_Desk, T.na_Desk_card_file, rfl, b1, _, dx2, _, _, rfl, g1, T.cl_CardFile, T.na_CardFile_questions, rfl, _, _, rfl, .inl ⟨_, SqL.of g5, rfl⟩, by show 2 ≤ sizeLine; decide, fun p hp => ?_⟩
      have e2 := exn (o := .lst [V.int (ys.length : Nat), V.int (zs.length : Nat)]) hp
      refine q _ p (fdt f2 (fdx e2)) ⟨dx, b1, e2 _ _ upd_same, hf2.ex e2⟩ wf1 ?_
      rw [upd_same, ← g4.len, ← g6.len] <;> rfl
end
end N
namespace N
open PySem PySem.Spec PyProof.Rows L2 NX
open Vbenae (File Line Ask Plan)
theorem asksIn_len {f : File} {l : List Int} {qs : List Nat} (h : Vbenae.asksIn f l = .ok qs) : 1 ≤ qs.length ∧ qs.length ≤ 6 := by
  unfold Vbenae.asksIn at h
  split at h
  · rename_i hc
    cases h
    rw [List.length_map]
    exact ⟨hc.1, hc.2.1⟩
  · cases h
theorem askOf_map (f : File) (qs : List Nat) : (qs.map (askOf f)).map (·.2) = qs.map (Vbenae.askAt f) := by
  rw [List.map_map]
  apply List.map_congr_left
  intro q _
  exact askOf_at f q
theorem ent_tab (f : File) (qs : List Nat) : IsTab f.marks.length f.cards ((qs.map (askOf f)).map (·.2)) (ent f qs) := fun c hc => by
  rw [askOf_map]
  exact ent_eq f qs hc
theorem least_plan {f : File} (wf : Wf f) (qs : List Nat) : Vbenae.leastPlan f qs = PG (ent f qs) (fun c => (ent f qs c).mark) f.marks.length (3 ^ f.marks.length - 1) := by
  have h3 := pow3 wf.marks
  unfold Vbenae.leastPlan
  rw [plan_from]
  exact PG_of wf.marks (good_mark (ent_tab f qs)) (by show 3 ^ f.marks.length - 1 < _; omega) (Nat.lt_succ_of_le (open_len _ _))
theorem thumb_plan {f : File} (wf : Wf f) (qs : List Nat) : Vbenae.thumbPlan f qs = PG (ent f qs) (evenE (ent f qs) f.marks.length) f.marks.length (3 ^ f.marks.length - 1) := by
  have h3 := pow3 wf.marks
  unfold Vbenae.thumbPlan
  rw [thumb_from]
  exact PG_of wf.marks (good_even (ent_tab f qs)) (by show 3 ^ f.marks.length - 1 < _; omega) (Nat.lt_succ_of_le (open_len _ _))
theorem thumb_cost {f : File} (wf : Wf f) (qs : List Nat) : Vbenae.cost f (Vbenae.thumbPlan f qs) = costOn (ent f qs) (PG (ent f qs) (evenE (ent f qs) f.marks.length) f.marks.length (3 ^ f.marks.length - 1)) (3 ^ f.marks.length - 1) := by
  have h3 := pow3 wf.marks
  rw [plan_cost_on wf.marks (ent_tab f qs) (fun x hx => (wf.line x hx).2) (good_even (ent_tab f qs)) _ _ (Nat.le_refl _) (by omega), thumb_plan wf]
  unfold Vbenae.cost
  rw [foldl_add, Nat.zero_add]
  refine sum_congr fun x _ => ?_
  rw [inC_whole wf.marks, if_pos rfl]
section
variable {P : Program} {w : World} {K : PySem.W.Frag} {mg : Str → Option Value} {base : Heap}
def sp_table_of (K : PySem.W.Frag) (mg : Str → Option Value) : Sp := fun vs H Q E => ∃ a f b ns, vs = [.ref a, .ref b] ∧ FileAt H a f ∧ Wf f ∧ H b = some (.lst (iv ns)) ∧
  Out K mg H E (Vbenae.asksIn f ns) fun qs => ∀ H' p, Ex H H' → TableAt H' p f.marks.length (ent f qs) (3 ^ f.marks.length) → Q (.ref p) H'
theorem sc_table_of : FnScope ["card_file", "row"] ["card_file", "row"] (defScope s_table_of) := C8.fnScope_by (by decide +kernel)
theorem c_table_of (T : Tx K mg) : Cal P w K mg base (L2.CX P w) 6 "table_of" a_table_of (sp_table_of K mg) := by
  obtain ⟨fd, F⟩ := T.d_table_of
  refine ⟨⟨fd, ["card_file", "row"], F.okX sc_table_of (fun vs H Q E h => by obtain ⟨a, f, b, ns, rfl, _⟩ := h; rfl) (fun cdv A outer s H vs Q E hr h => ⟨_, pss_one (ps_ret (pe_f (c_make_table T) hr (by decide) rfl (pa_cons (pv 0) (pa_cons (pe_fX (c_find_questions T) hr (by decide) (passes_call (takes_of rfl rfl rfl rfl) fun _ _ _ _ z => z) rfl (pa_cons (pv 0) (pa_cons (pv 1) pa_nil))) pa_nil)))), ?_⟩), F.binds fun _ _ _ _ _ _ us hl => match us, hl with | [_, _], _ => rfl⟩, T.g_table_of, F.kp⟩
  obtain ⟨a, f, b, ns, rfl, hf, wf, hb, q⟩ := h
  refine ⟨_, rfl, _, rfl, _, rfl, a, f, b, ns, rfl, hf, wf.asks, hb, ?_⟩
  cases ha : Vbenae.asksIn f ns with
  | error e =>
    rw [ha] at q
    exact q
  | ok qs =>
    rw [ha] at q
    intro H1 p e1 _ hq
    exact ⟨a, p, f, qs.map (askOf f), ent f qs, rfl, hf.ex e1, wf, hq, by rw [List.length_map]; exact (asksIn_len ha).2, ent_tab f qs, fun H2 p2 e2 ht => q H2 p2 (ext e1 e2) ht⟩
def sp_least_cost : Sp := fun vs H Q _ => ∃ (a b : Addr) (f : File) (qs : List (List Nat × Ask)) (E : Nat → Ent), vs = [.ref a, .ref b] ∧ FileAt H a f ∧ Wf f ∧ QsAt H b f.marks qs ∧ qs.length ≤ 6 ∧ IsTab f.marks.length f.cards (qs.map (·.2)) E ∧
  ∀ H', Ex H H' → Q (.int ((E (3 ^ f.marks.length - 1)).least : Nat)) H'
theorem sc_least_cost : FnScope ["card_file", "questions"] ["card_file", "questions"] (defScope s_least_cost) := C8.fnScope_by (by decide +kernel)
theorem c_least_cost (T : Tx K mg) : Cal P w K mg base CX0 6 "least_cost" a_least_cost sp_least_cost := by
  obtain ⟨fd, F⟩ := T.d_least_cost
  refine ⟨⟨fd, ["card_file", "questions"], F.ok sc_least_cost (fun vs H Q E h => by obtain ⟨a, b, f, qs, E, rfl, _⟩ := h; rfl) (fun cdv A outer s H vs Q E hr h => ⟨_, pss_one (ps_ret (pe_fld (pe_f (c_whole_cube T) hr (by decide) rfl (pa_cons (pe_f (c_make_table T) hr (by decide) rfl (pa_cons (pv 0) (pa_cons (pv 1) pa_nil))) pa_nil)) rfl)), ?_⟩), F.binds fun _ _ _ _ _ _ us hl => match us, hl with | [_, _], _ => rfl⟩, T.g_least_cost, F.kp⟩
  obtain ⟨a, b, f, qs, E, rfl, hf, wf, hq, hq6, hE, q⟩ := h
  have h3 := pow3 wf.marks
  refine ⟨_, rfl, _, rfl, a, b, f, qs, E, rfl, hf, wf, hq, hq6, hE, fun H1 t e1 ht => ?_⟩
  refine ⟨t, _, _, E, rfl, ht, by omega, fun v hv => ?_⟩
  obtain ⟨ca, cd, ch, rfl, c1, c2⟩ := hv
  exact ⟨ca, _, cd, _, _, rfl, c1, T.cl_Cube, T.na_Cube_cost, lk_cost, q _ e1⟩
def sp_greatest_divisor : Sp := fun vs H Q _ => ∃ (m n : Nat), vs = [.int m, .int n] ∧ Q (.int (Nat.gcd m n : Nat)) H
theorem sc_greatest_divisor : FnScope ["one", "other", "rest"] ["one", "other"] (defScope s_greatest_divisor) := C8.fnScope_by (by decide +kernel)
theorem c_greatest_divisor (T : Tx K mg) : Cal P w K mg base CX0 1 "greatest_divisor" a_greatest_divisor sp_greatest_divisor := by
  obtain ⟨fd, F⟩ := T.d_greatest_divisor
  refine ⟨⟨fd, ["one", "other"], F.ok sc_greatest_divisor (fun vs H Q E h => by obtain ⟨m, n, rfl, _⟩ := h; rfl) (fun cdv A outer s H vs Q E hr h => ⟨_, pss_cons (ps_while PassesOwn.never (pt_cmpR op_gt (pv 1) pe_int (nomark _))
    (pss_cons (ps_set (i := 2) sc_greatest_divisor.nd rfl (Or.inl rfl) (pe_op op_mod (pv 0) (pv 1)))
    (pss_cons (ps_set (i := 0) sc_greatest_divisor.nd rfl (Or.inl rfl) (pv 1))
    (pss_one (ps_set (i := 1) sc_greatest_divisor.nd rfl (Or.inl rfl) (pv 2))))))
    (pss_one (ps_ret (pv 0))), ?_⟩), F.binds fun _ _ _ _ _ _ us hl => match us, hl with | [_, _], _ => rfl⟩, T.g_greatest_divisor, F.kp⟩
  obtain ⟨m, n, rfl, q⟩ := h
  refine ⟨fun k σ H' => ∃ (x y : Nat) (u : Option V), σ = [some (.int (x : Nat)), some (.int (y : Nat)), u] ∧ k = y ∧ H' = H ∧ Nat.gcd x y = Nat.gcd m n, ⟨_, m, n, _, rfl, rfl, rfl, rfl⟩, ?_⟩
  rintro k σ H' ⟨x, y, u, rfl, rfl, rfl, hg⟩
  refine ⟨_, rfl, _, _, rfl, rfl, _, rfl, ?_⟩
  by_cases c : 0 < k
  · refine ifT (by omega) ⟨fun σ' H2 => _, fun _ _ z => z, ?_⟩
    have hlt : x % k < k := Nat.mod_lt _ c
    refine ⟨_, rfl, _, rfl, _, _, rfl, rfl, by omega, ?_⟩
    refine ⟨_, rfl, _, rfl, ?_⟩
    refine ⟨x % k, hlt, k, x % k, some (.int ((x % k : Nat) : Int)), ?_, rfl, rfl, ?_⟩
    · have e : (x : Int) % (k : Int) = ((x % k : Nat) : Int) := (Int.natCast_emod ..).symm
      show [_, some (V.int ((x : Int) % (k : Int))), some (V.int ((x : Int) % (k : Int)))] = _
      rw [e] <;> rfl
    · rw [← hg, Nat.gcd_comm k, Nat.gcd_comm x k, Nat.gcd_rec k x]
  · refine ifF (by omega) ⟨_, rfl, ?_⟩
    have hk : k = 0 := by omega
    rw [hk, Nat.gcd_zero_right] at hg
    rw [← hg] at q
    exact q
end
end N
namespace N
open PySem PySem.Spec PyProof.Rows L2 NX
open Vbenae (File Line Ask Plan)
theorem markV_none {e : Ent} (h : e.answer = none) : markV e = .int (e.mark : Nat) := by
  unfold markV
  rw [if_neg (by rw [h]; decide)]
theorem thumbV_none {E : Nat → Ent} {k c : Nat} (h : (E c).answer = none) : thumbV E k c = .int (evenE E k c : Nat) := by
  unfold thumbV
  rw [if_neg (by rw [h]; decide)]
theorem ent_open (f : File) (qs : List Nat) : ∀ c, c < 3 ^ f.marks.length → (ent f qs c).answer = none → Vbenae.open_ f.marks.length c ≠ [] := fun _ hc ha => (ent_none (ent_tab f qs) hc ha).1
section
variable {P : Program} {w : World} {K : PySem.W.Frag} {mg : Str → Option Value} {base : Heap}
def S_least : Shp := fun nums rows c => ∃ l, nums = [] ∧ rows = [l] ∧ c = .least l
theorem sc_do_least : FnScope ["desk", "numbers", "rows", "table"] ["desk", "numbers", "rows"] (defScope s_do_least) := C8.fnScope_by (by decide +kernel)
theorem c_do_least (T : Tx K mg) : Cal P w K mg base (L2.CX P w) 46 "do_least" a_do_least (sp_do K mg S_least) := by
  obtain ⟨fd, F⟩ := T.d_do_least
  refine ⟨⟨fd, ["desk", "numbers", "rows"], F.okX sc_do_least (fun vs H Q E h => by obtain ⟨d, np, rp, f, nums, rows, c, rfl, _⟩ := h; rfl) (fun cdv A outer s H vs Q E hr h => ⟨_, pss_cons (ps_set (i := 3) sc_do_least.nd rfl (Or.inl rfl) (pe_fX (c_table_of T) hr (by decide) (passes_call (takes_of rfl rfl rfl rfl) fun _ _ _ _ z => z) rfl (pa_cons (pe_fld (pv 0) rfl) (pa_cons (pe_ix ix_list (pv 2) pe_int (fun _ _ => rfl)) pa_nil))))
    (pss_one (ps_ret (pe_f (c_cost_and_row T) hr (by decide) rfl (pa_cons (pv 3) (pa_cons (pe_f (c_least_marks T) hr (by decide) rfl (pa_cons (pv 3) pa_nil)) pa_nil))))), ?_⟩), F.binds fun _ _ _ _ _ _ us hl => match us, hl with | [_, _, _], _ => rfl⟩, T.g_do_least, F.kp⟩
  obtain ⟨d, np, rp, f, nums, rows, c, rfl, ⟨l, rfl, rfl, rfl⟩, D, q⟩ := h
  obtain ⟨dx, a, h1, hf⟩ := id D.desk
  obtain ⟨ra, r1, r2⟩ := row_one D.hr
  have h3 := pow3 D.wf.marks
  have hrun : Vbenae.run f (.least l) = (Vbenae.asksIn f l >>= fun l => .ok (f, (Vbenae.leastCost f l : Int) :: Vbenae.planRow (Vbenae.leastPlan f l))) := rfl
  rw [hrun, bnd] at q
  refine ⟨_, rfl, d, _, dx, _, _, rfl, h1, T.cl_Desk, T.na_Desk_card_file, rfl, _, rfl, _, _, _, _, rfl, rfl, SqL.of r1, rfl, a, f, ra, l, rfl, hf, D.wf, r2, ?_⟩
  cases ha : Vbenae.asksIn f l with
  | error e =>
    rw [ha] at q
    exact Rd.rf q fdr D.desk
  | ok qs =>
    rw [ha] at q
    dsimp only at q
    intro H1 t e1 ht
    refine ⟨_, rfl, _, rfl, t, _, _, _, rfl, ht, by omega, fun H2 ml e2 hml => ?_⟩
    refine ⟨t, ml, _, ent f qs, fun c => (ent f qs c).mark, fun c => markV (ent f qs c), rfl, ht.ex e2, D.wf.marks, hml, good_mark (ent_tab f qs), fun c _ hc => markV_none hc, fun H3 p e3 hp => ?_⟩
    have ee := ext e1 (ext e2 e3)
    refine q _ p (fdx ee) (D.desk.ex ee) D.wf ?_
    rw [hp, least_plan D.wf, least_cost D.wf.marks (ent_tab f qs) _ _ (Nat.le_refl _) (by omega)] <;> rfl
def S_thumb : Shp := fun nums rows c => ∃ l, nums = [] ∧ rows = [l] ∧ c = .thumb l
theorem sc_do_thumb : FnScope ["desk", "numbers", "rows", "table"] ["desk", "numbers", "rows"] (defScope s_do_thumb) := C8.fnScope_by (by decide +kernel)
theorem c_do_thumb (T : Tx K mg) : Cal P w K mg base (L2.CX P w) 46 "do_thumb" a_do_thumb (sp_do K mg S_thumb) := by
  obtain ⟨fd, F⟩ := T.d_do_thumb
  refine ⟨⟨fd, ["desk", "numbers", "rows"], F.okX sc_do_thumb (fun vs H Q E h => by obtain ⟨d, np, rp, f, nums, rows, c, rfl, _⟩ := h; rfl) (fun cdv A outer s H vs Q E hr h => ⟨_, pss_cons (ps_set (i := 3) sc_do_thumb.nd rfl (Or.inl rfl) (pe_fX (c_table_of T) hr (by decide) (passes_call (takes_of rfl rfl rfl rfl) fun _ _ _ _ z => z) rfl (pa_cons (pe_fld (pv 0) rfl) (pa_cons (pe_ix ix_list (pv 2) pe_int (fun _ _ => rfl)) pa_nil))))
    (pss_one (ps_ret (pe_f (c_cost_and_row T) hr (by decide) rfl (pa_cons (pv 3) (pa_cons (pe_f (c_thumb_marks T) hr (by decide) rfl (pa_cons (pv 3) pa_nil)) pa_nil))))), ?_⟩), F.binds fun _ _ _ _ _ _ us hl => match us, hl with | [_, _, _], _ => rfl⟩, T.g_do_thumb, F.kp⟩
  obtain ⟨d, np, rp, f, nums, rows, c, rfl, ⟨l, rfl, rfl, rfl⟩, D, q⟩ := h
  obtain ⟨dx, a, h1, hf⟩ := id D.desk
  obtain ⟨ra, r1, r2⟩ := row_one D.hr
  have h3 := pow3 D.wf.marks
  have hrun : Vbenae.run f (.thumb l) = (Vbenae.asksIn f l >>= fun l => .ok (f, (Vbenae.cost f (Vbenae.thumbPlan f l) : Int) :: Vbenae.planRow (Vbenae.thumbPlan f l))) := rfl
  rw [hrun, bnd] at q
  refine ⟨_, rfl, d, _, dx, _, _, rfl, h1, T.cl_Desk, T.na_Desk_card_file, rfl, _, rfl, _, _, _, _, rfl, rfl, SqL.of r1, rfl, a, f, ra, l, rfl, hf, D.wf, r2, ?_⟩
  cases ha : Vbenae.asksIn f l with
  | error e =>
    rw [ha] at q
    exact Rd.rf q fdr D.desk
  | ok qs =>
    rw [ha] at q
    dsimp only at q
    intro H1 t e1 ht
    refine ⟨_, rfl, _, rfl, t, _, _, _, rfl, ht, by omega, D.wf.marks, ent_open f qs, fun H2 ml e2 hml => ?_⟩
    refine ⟨t, ml, _, ent f qs, evenE (ent f qs) f.marks.length, fun c => thumbV (ent f qs) f.marks.length c, rfl, ht.ex e2, D.wf.marks, hml, good_even (ent_tab f qs), fun c _ hc => thumbV_none hc, fun H3 p e3 hp => ?_⟩
    have ee := ext e1 (ext e2 e3)
    refine q _ p (fdx ee) (D.desk.ex ee) D.wf ?_
    rw [hp, thumb_cost D.wf, thumb_plan D.wf] <;> rfl
def S_labels : Shp := fun nums rows c => ∃ l, nums = [] ∧ rows = [l] ∧ c = .labels l
theorem sc_do_labels : FnScope ["desk", "numbers", "rows", "table", "cube"] ["desk", "numbers", "rows"] (defScope s_do_labels) := C8.fnScope_by (by decide +kernel)
theorem c_do_labels (T : Tx K mg) : Cal P w K mg base (L2.CX P w) 46 "do_labels" a_do_labels (sp_do K mg S_labels) := by
  obtain ⟨fd, F⟩ := T.d_do_labels
  refine ⟨⟨fd, ["desk", "numbers", "rows"], F.okX sc_do_labels (fun vs H Q E h => by obtain ⟨d, np, rp, f, nums, rows, c, rfl, _⟩ := h; rfl) (fun cdv A outer s H vs Q E hr h => ⟨_, pss_cons (ps_set (i := 3) sc_do_labels.nd rfl (Or.inl rfl) (pe_fX (c_table_of T) hr (by decide) (passes_call (takes_of rfl rfl rfl rfl) fun _ _ _ _ z => z) rfl (pa_cons (pe_fld (pv 0) rfl) (pa_cons (pe_ix ix_list (pv 2) pe_int (fun _ _ => rfl)) pa_nil))))
    (pss_one (ps_ret (pe_op op_cat (pe_lst (pa_cons (pe_callB call_len rfl T.f_len PySem.boot_len (pa_cons (pv 3) pa_nil)) pa_nil)) (by exact (pe_lc (own := [("cube", 4)]) (g := gName 4) rfl sc_do_labels.nd (pi_list (pv 3)) (blkOk_by (own := [("cube", 4)]) (N := ["desk", "numbers", "rows", "table", "cube"]) (sc := defScope s_do_labels) (by decide +kernel)) (fun _ _ _ _ _ => by exact (pg_name (i := 4) sc_do_labels.nd rfl (Or.inl rfl))) (fun _ _ _ _ _ => by exact pts_nil) (fun _ _ _ _ _ => by exact (pe_fldK (K := K) rfl (pv 4) rfl))))))), ?_⟩), F.binds fun _ _ _ _ _ _ us hl => match us, hl with | [_, _, _], _ => rfl⟩, T.g_do_labels, F.kp⟩
  obtain ⟨d, np, rp, f, nums, rows, c, rfl, ⟨l, rfl, rfl, rfl⟩, D, q⟩ := h
  obtain ⟨dx, a, h1, hf⟩ := id D.desk
  obtain ⟨ra, r1, r2⟩ := row_one D.hr
  have h3 := pow3 D.wf.marks
  have hrun : Vbenae.run f (.labels l) = (Vbenae.asksIn f l >>= fun l => .ok (f, Vbenae.listRow ((List.range (3 ^ f.marks.length)).map fun c => ((ent f l c).least : Int)))) := rfl
  rw [hrun, bnd] at q
  refine ⟨_, rfl, d, _, dx, _, _, rfl, h1, T.cl_Desk, T.na_Desk_card_file, rfl, _, rfl, _, _, _, _, rfl, rfl, SqL.of r1, rfl, a, f, ra, l, rfl, hf, D.wf, r2, ?_⟩
  cases ha : Vbenae.asksIn f l with
  | error e =>
    rw [ha] at q
    exact Rd.rf q fdr D.desk
  | ok qs =>
    rw [ha] at q
    dsimp only at q
    intro H1 t e1 ht
    obtain ⟨zs, t1, t2, t3⟩ := id ht
    refine ⟨_, rfl, _, _, rfl, .inl ⟨_, SqL.of t1, rfl⟩, by show 1 ≤ sizeLine; decide, fun p0 hp0 => ?_⟩
    have e2 := exn (o := .lst [V.int (zs.length : Nat)]) hp0
    refine ⟨_, rfl, t, rfl, ⟨_, SqL.of (e2 _ _ t1)⟩, fun LD hLD => ?_⟩
    refine lc_map (walk_list (K := K) (a := t) (xs := zs)) (fun i => .int ((ent f qs i).least : Nat)) (by omega) hLD (fun H2 e3 => SqL.of (e3 _ _ (e2 _ _ t1))) (fun i u H2 H' C hi e3 y hC => ?_) (fun H2 e3 h2' => ?_)
    · obtain ⟨rfl, hx⟩ := y
      obtain ⟨b, bd, bh, rfl, g1, g2⟩ := t3 i u hx
      exact ⟨rfl, _, rfl, b, _, bd, _, _, rfl, e3 _ _ (e2 _ _ g1), T.cl_Cube, T.na_Cube_cost, lk_cost, hC _ exr⟩
    · rw [t2] at h2'
      refine ⟨_, _, _, _, rfl, rfl, e3 _ _ upd_same, h2', szl (by rw [List.length_map, List.length_range]; show 1 + _ ≤ _; omega), fun p hp => ?_⟩
      have e4 := exn (o := .lst ([V.int (zs.length : Nat)] ++ (List.range (3 ^ f.marks.length)).map fun i => V.int ((ent f qs i).least : Nat))) hp
      have ee := ext e1 (ext e2 (ext e3 e4))
      refine q _ p (fdx ee) (D.desk.ex ee) D.wf ?_
      rw [upd_same, t2]
      show _ = some (HO.lst (V.int (((List.range (3 ^ f.marks.length)).map fun c => ((ent f qs c).least : Int)).length : Nat) :: iv ((List.range (3 ^ f.marks.length)).map fun c => ((ent f qs c).least : Int))))
      rw [List.length_map, List.length_range]
      show _ = some (HO.lst (_ :: List.map _ (List.map _ _)))
      rw [List.map_map] <;> rfl
def S_deep : Shp := fun nums rows c => ∃ l, nums = [] ∧ rows = [l] ∧ c = .deep l
theorem sc_do_deep : FnScope ["desk", "numbers", "rows"] ["desk", "numbers", "rows"] (defScope s_do_deep) := C8.fnScope_by (by decide +kernel)
theorem c_do_deep (T : Tx K mg) : Cal P w K mg base (L2.CX P w) 46 "do_deep" a_do_deep (sp_do K mg S_deep) := by
  obtain ⟨fd, F⟩ := T.d_do_deep
  refine ⟨⟨fd, ["desk", "numbers", "rows"], F.okX sc_do_deep (fun vs H Q E h => by obtain ⟨d, np, rp, f, nums, rows, c, rfl, _⟩ := h; rfl) (fun cdv A outer s H vs Q E hr h => ⟨_, pss_one (ps_ret (pe_lst (pa_cons (pe_fld (pe_f (c_whole_cube T) hr (by decide) rfl (pa_cons (pe_fX (c_table_of T) hr (by decide) (passes_call (takes_of rfl rfl rfl rfl) fun _ _ _ _ z => z) rfl (pa_cons (pe_fld (pv 0) rfl) (pa_cons (pe_ix ix_list (pv 2) pe_int (fun _ _ => rfl)) pa_nil))) pa_nil)) rfl) pa_nil))), ?_⟩), F.binds fun _ _ _ _ _ _ us hl => match us, hl with | [_, _, _], _ => rfl⟩, T.g_do_deep, F.kp⟩
  obtain ⟨d, np, rp, f, nums, rows, c, rfl, ⟨l, rfl, rfl, rfl⟩, D, q⟩ := h
  obtain ⟨dx, a, h1, hf⟩ := id D.desk
  obtain ⟨ra, r1, r2⟩ := row_one D.hr
  have h3 := pow3 D.wf.marks
  have hrun : Vbenae.run f (.deep l) = (Vbenae.asksIn f l >>= fun l => .ok (f, [((ent f l (3 ^ f.marks.length - 1)).deep : Int)])) := rfl
  rw [hrun, bnd] at q
  refine ⟨_, rfl, d, _, dx, _, _, rfl, h1, T.cl_Desk, T.na_Desk_card_file, rfl, _, rfl, _, _, _, _, rfl, rfl, SqL.of r1, rfl, a, f, ra, l, rfl, hf, D.wf, r2, ?_⟩
  cases ha : Vbenae.asksIn f l with
  | error e =>
    rw [ha] at q
    exact Rd.rf q fdr D.desk
  | ok qs =>
    rw [ha] at q
    dsimp only at q
    intro H1 t e1 ht
    refine ⟨t, _, _, ent f qs, rfl, ht, by omega, fun v hv => ?_⟩
    obtain ⟨ca, cd, ch, rfl, c1, c2⟩ := hv
    refine ⟨ca, _, cd, _, _, rfl, c1, T.cl_Cube, T.na_Cube_depth, lk_depth, by show 1 ≤ sizeLine; decide, fun p hp => ?_⟩
    have ee := ext e1 (exn (o := .lst [V.int ((ent f qs (3 ^ f.marks.length - 1)).deep : Nat)]) hp)
    exact q _ p (fdx ee) (D.desk.ex ee) D.wf upd_same
def S_cube : Shp := fun nums rows c => ∃ z l, nums = [z] ∧ rows = [l] ∧ c = .cube z l
theorem sc_do_cube : FnScope ["desk", "numbers", "rows", "table", "cube", "told"] ["desk", "numbers", "rows"] (defScope s_do_cube) := C8.fnScope_by (by decide +kernel)
theorem c_do_cube (T : Tx K mg) : Cal P w K mg base (L2.CX P w) 46 "do_cube" a_do_cube (sp_do K mg S_cube) := by
  obtain ⟨fd, F⟩ := T.d_do_cube
  refine ⟨⟨fd, ["desk", "numbers", "rows"], F.okX sc_do_cube (fun vs H Q E h => by obtain ⟨d, np, rp, f, nums, rows, c, rfl, _⟩ := h; rfl) (fun cdv A outer s H vs Q E hr h => ⟨_, pss_cons (ps_expr (pe_fX (c_check_below T) hr (by decide) (passes_call (takes_of rfl rfl rfl rfl) fun _ _ _ _ z => z) rfl (pa_cons (pe_ix ix_list (pv 1) pe_int (fun _ _ => rfl)) (pa_cons (C8.pe_gc rfl T.k_MOST_CUBES) pa_nil))))
    (pss_cons (ps_set (i := 3) sc_do_cube.nd rfl (Or.inl rfl) (pe_fX (c_table_of T) hr (by decide) (passes_call (takes_of rfl rfl rfl rfl) fun _ _ _ _ z => z) rfl (pa_cons (pe_fld (pv 0) rfl) (pa_cons (pe_ix ix_list (pv 2) pe_int (fun _ _ => rfl)) pa_nil))))
    (pss_cons (ps_if (pt_cmpR op_ge (pe_ix ix_list (pv 1) pe_int (fun _ _ => rfl)) (pe_callB call_len rfl T.f_len PySem.boot_len (pa_cons (pv 3) pa_nil)) (nomark _)) (pss_one (ps_rz (r_NoCube T) hr (by decide) rfl rfl (takes_of rfl rfl rfl rfl))) pss_nil)
    (pss_cons (ps_set (i := 4) sc_do_cube.nd rfl (Or.inl rfl) (pe_ix ix_list (pv 3) (pe_ix ix_list (pv 1) pe_int (fun _ _ => rfl)) (fun _ _ => rfl)))
    (pss_cons (ps_set (i := 5) sc_do_cube.nd rfl (Or.inl rfl) (pe_ifExp (pt_cmpR op_isN (pe_fld (pv 4) rfl) pe_non (nomark _)) (pe_lst (pa_cons pe_int (pa_cons (pe_fld (pv 4) rfl) pa_nil))) (pe_lst (pa_cons pe_int (pa_cons (pe_fld (pv 4) rfl) pa_nil)))))
    (pss_one (ps_ret (pe_op op_cat (pv 5) (pe_lst (pa_cons (pe_fld (pv 4) rfl) (pa_cons (pe_fld (pv 4) rfl) (pa_cons (pe_fld (pv 4) rfl) pa_nil))))))))))), ?_⟩), F.binds fun _ _ _ _ _ _ us hl => match us, hl with | [_, _, _], _ => rfl⟩, T.g_do_cube, F.kp⟩
  obtain ⟨d, np, rp, f, nums, rows, c, rfl, ⟨z, l, rfl, rfl, rfl⟩, D, q⟩ := h
  obtain ⟨dx, a, h1, hf⟩ := id D.desk
  obtain ⟨ra, r1, r2⟩ := row_one D.hr
  have h3 := pow3 D.wf.marks
  have hrun : Vbenae.run f (.cube z l) = (Vbenae.ranged z 0 728 >>= fun c => Vbenae.asksIn f l >>= fun l => if c < 3 ^ f.marks.length then .ok (f, (match (ent f l c).answer with
        | none => [0, ((ent f l c).mark : Int)]
        | some a => [1, (a : Int)]) ++ VbenCore.ints [(ent f l c).cards, (ent f l c).least, (ent f l c).deep]) else .error (-5)) := rfl
  rw [hrun, bnd] at q
  have hrg : (0 ≤ z ∧ z < 729 → Vbenae.ranged z 0 728 = .ok z.toNat) ∧ (z < 0 ∨ 729 ≤ z → Vbenae.ranged z 0 728 = .error (-3)) := by
    unfold Vbenae.ranged VbenCore.isBetween
    constructor
    · intro hz
      rw [if_pos (by simp only [Bool.and_eq_true, decide_eq_true_eq]; omega)]
    · intro hz
      rw [if_neg (by simp only [Bool.and_eq_true, decide_eq_true_eq]; omega)]
  refine ⟨_, rfl, _, _, _, _, rfl, rfl, SqL.of D.hn, rfl, z, 729, rfl, fun hz => ?_, fun hz => ?_⟩
  case refine_2 =>
    rw [hrg.2 hz] at q
    exact Rd.rf q fdr D.desk
  rw [hrg.1 hz] at q
  obtain ⟨n, rfl⟩ : ∃ n : Nat, z = n := ⟨z.toNat, by omega⟩
  dsimp only at q
  rw [bnd, Int.toNat_natCast] at q
  refine ⟨_, rfl, d, _, dx, _, _, rfl, h1, T.cl_Desk, T.na_Desk_card_file, rfl, _, rfl, _, _, _, _, rfl, rfl, SqL.of r1, rfl, a, f, ra, l, rfl, hf, D.wf, r2, ?_⟩
  cases ha : Vbenae.asksIn f l with
  | error e =>
    rw [ha] at q
    exact Rd.rf q fdr D.desk
  | ok qs =>
    rw [ha] at q
    dsimp only at q
    intro H1 t e1 ht
    obtain ⟨zs, t1, t2, t3⟩ := id ht
    have hn1 := e1 _ _ D.hn
    refine ⟨_, rfl, _, _, _, _, rfl, rfl, SqL.of hn1, rfl, _, rfl, _, _, rfl, .inl ⟨_, SqL.of t1, rfl⟩, _, _, rfl, rfl, _, rfl, ?_⟩
    by_cases cc : n < 3 ^ f.marks.length
    case neg =>
      rw [if_neg cc] at q
      refine ifT (by omega) ?_
      exact Rf.go (Rd.rf q (fdx e1) (D.desk.ex e1)) T.x_NoCube
    rw [if_pos cc] at q
    refine ifF (by omega) ?_
    have hv : zs[n]? = some zs[n] := List.getElem?_eq_getElem (by omega)
    obtain ⟨ca, cd, ch, hz2, c1, c2⟩ := t3 n _ hv
    rw [hz2] at hv
    refine ⟨_, rfl, _, rfl, _, _, _, _, rfl, rfl, SqL.of hn1, rfl, _, _, _, _, rfl, rfl, SqL.of t1, atI_nat hv, ?_⟩
    refine ⟨_, rfl, ca, _, cd, _, _, rfl, c1, T.cl_Cube, T.na_Cube_pile, lk_pile, rfl, _, rfl, ?_⟩
    cases hA : (ent f qs n).answer with
    | none =>
      rw [hA] at q
      refine ifT rfl ⟨_, rfl, ca, _, cd, _, _, rfl, c1, T.cl_Cube, T.na_Cube_mark, lk_mark.trans (congrArg some (markV_none hA)), by show 2 ≤ sizeLine; decide, fun p0 hp0 => ?_⟩
      have e2 := exn (o := .lst [V.int 0, V.int ((ent f qs n).mark : Nat)]) hp0
      have e12 := ext e1 e2
      refine ⟨_, rfl, _, rfl, ca, _, cd, _, _, rfl, e2 _ _ c1, T.cl_Cube, T.na_Cube_cards, lk_cards, _, rfl, ca, _, cd, _, _, rfl, e2 _ _ c1, T.cl_Cube, T.na_Cube_cost, lk_cost, _, rfl, ca, _, cd, _, _, rfl, e2 _ _ c1, T.cl_Cube, T.na_Cube_depth, lk_depth, by show 3 ≤ sizeLine; decide, fun p1 hp1 => ?_⟩
      have e3 := exn (o := .lst [V.int ((ent f qs n).cards : Nat), V.int ((ent f qs n).least : Nat), V.int ((ent f qs n).deep : Nat)]) hp1
      refine ⟨_, _, _, _, rfl, rfl, e3 _ _ upd_same, upd_same, by show 2 + 3 ≤ sizeLine; decide, fun p hp => ?_⟩
      have ee := ext e12 (ext e3 (exn (o := .lst ([V.int 0, V.int ((ent f qs n).mark : Nat)] ++ [V.int ((ent f qs n).cards : Nat), V.int ((ent f qs n).least : Nat), V.int ((ent f qs n).deep : Nat)])) hp))
      exact q _ p (fdx ee) (D.desk.ex ee) D.wf upd_same
    | some pi =>
      rw [hA] at q
      refine ifF (fun z => nomatch z) ⟨_, rfl, ca, _, cd, _, _, rfl, c1, T.cl_Cube, T.na_Cube_pile, lk_pile.trans (congrArg (fun x => some (optV x)) hA), by show 2 ≤ sizeLine; decide, fun p0 hp0 => ?_⟩
      have e2 := exn (o := .lst [V.int 1, V.int (pi : Nat)]) hp0
      have e12 := ext e1 e2
      refine ⟨_, rfl, _, rfl, ca, _, cd, _, _, rfl, e2 _ _ c1, T.cl_Cube, T.na_Cube_cards, lk_cards, _, rfl, ca, _, cd, _, _, rfl, e2 _ _ c1, T.cl_Cube, T.na_Cube_cost, lk_cost, _, rfl, ca, _, cd, _, _, rfl, e2 _ _ c1, T.cl_Cube, T.na_Cube_depth, lk_depth, by show 3 ≤ sizeLine; decide, fun p1 hp1 => ?_⟩
      have e3 := exn (o := .lst [V.int ((ent f qs n).cards : Nat), V.int ((ent f qs n).least : Nat), V.int ((ent f qs n).deep : Nat)]) hp1
      refine ⟨_, _, _, _, rfl, rfl, e3 _ _ upd_same, upd_same, by show 2 + 3 ≤ sizeLine; decide, fun p hp => ?_⟩
      have ee := ext e12 (ext e3 (exn (o := .lst ([V.int 1, V.int (pi : Nat)] ++ [V.int ((ent f qs n).cards : Nat), V.int ((ent f qs n).least : Nat), V.int ((ent f qs n).deep : Nat)])) hp))
      exact q _ p (fdx ee) (D.desk.ex ee) D.wf upd_same
end
end N
namespace N
open PySem PySem.Spec PyProof.Rows L2 NX
open Vbenae (File Line Ask Plan)
theorem PartingAt.ex {H H' : Hp} (e : Ex H H') {v : V} {N : Nat} {st : Lay} (h : PartingAt H v N st) : PartingAt H' v N st := by
  obtain ⟨x, dx, lp, ln, rfl, a1, a2, a3, a4⟩ := h
  exact ⟨x, dx, lp, ln, rfl, e _ _ a1, e _ _ a2, e _ _ a3, a4⟩
theorem lay_g {N n : Nat} (p : Plan) (hn : n < N) : (lay (List.range N) 0 p lay0).g n = Vbenae.pileOf p n := by
  show (if n ∈ List.range N then Vbenae.pileOf p n else _) = _
  rw [if_pos (List.mem_range.mpr hn)]
theorem lay_h {N n : Nat} (p : Plan) (hn : n < N) : (lay (List.range N) 0 p lay0).h n = Vbenae.needlings p n := by
  show (if n ∈ List.range N then 0 + Vbenae.needlings p n else _) = _
  rw [if_pos (List.mem_range.mpr hn), Nat.zero_add]
theorem lay_D {N : Nat} (p : Plan) : (lay (List.range N) 0 p lay0).D = Vbenae.deepest p := by
  show max 0 (0 + Vbenae.deepest p) = _
  omega
theorem wrong_eq (f : File) (qs : List Nat) (p : Plan) : (List.range (2 ^ f.marks.length)).find? (fun n => (lay (List.range (2 ^ f.marks.length)) 0 p lay0).g n != ansOf ((qs.map (askOf f)).map (·.2)) n) = Vbenae.wrongAt f qs p := by
  unfold Vbenae.wrongAt
  refine find_congr fun n hn => ?_
  rw [lay_g p hn, askOf_map, answers_ans]
theorem cost_eq {f : File} (wf : Wf f) (p : Plan) : (f.cards.map fun x => x.count * (lay (List.range (2 ^ f.marks.length)) 0 p lay0).h x.notching).foldl (fun a b => a + b) 0 = Vbenae.cost f p := by
  unfold Vbenae.cost
  have : (f.cards.map fun x => x.count * (lay (List.range (2 ^ f.marks.length)) 0 p lay0).h x.notching) = f.cards.map fun x => x.count * Vbenae.needlings p x.notching := by
    apply List.map_congr_left
    intro x hx
    rw [lay_h p (wf.line x hx).2]
  rw [this]
section
variable {P : Program} {w : World} {K : PySem.W.Frag} {mg : Str → Option Value} {base : Heap}
def S_cost : Shp := fun nums rows c => ∃ l pl, nums = [] ∧ rows = [l, pl] ∧ c = .cost l pl
theorem sc_do_cost : FnScope ["desk", "numbers", "rows", "card_file", "piles", "parting", "misplaced", "told"] ["desk", "numbers", "rows"] (defScope s_do_cost) := C8.fnScope_by (by decide +kernel)
theorem c_do_cost (T : Tx K mg) : Cal P w K mg base (L2.CX P w) 46 "do_cost" a_do_cost (sp_do K mg S_cost) := by
  obtain ⟨fd, F⟩ := T.d_do_cost
  refine ⟨⟨fd, ["desk", "numbers", "rows"], F.okX sc_do_cost (fun vs H Q E h => by obtain ⟨d, np, rp, f, nums, rows, c, rfl, _⟩ := h; rfl) (fun cdv A outer s H vs Q E hr h => ⟨_, pss_cons (ps_set (i := 3) sc_do_cost.nd rfl (Or.inl rfl) (pe_fld (pv 0) rfl))
    (pss_cons (ps_set (i := 4) sc_do_cost.nd rfl (Or.inl rfl) (pe_f (c_right_piles T) hr (by decide) rfl (pa_cons (pv 3) (pa_cons (pe_fX (c_find_questions T) hr (by decide) (passes_call (takes_of rfl rfl rfl rfl) fun _ _ _ _ z => z) rfl (pa_cons (pv 3) (pa_cons (pe_ix ix_list (pv 2) pe_int (fun _ _ => rfl)) pa_nil))) pa_nil))))
    (pss_cons (ps_set (i := 5) sc_do_cost.nd rfl (Or.inl rfl) (pe_fX (c_part_by_plan T) hr (by decide) (passes_call (takes_of rfl rfl rfl rfl) fun _ _ _ _ z => z) rfl (pa_cons (pe_ix ix_list (pv 2) pe_int (fun _ _ => rfl)) (pa_cons (pe_fld (pv 3) rfl) pa_nil))))
    (pss_cons (ps_set (i := 6) sc_do_cost.nd rfl (Or.inl rfl) (pe_f (c_first_misplaced T) hr (by decide) rfl (pa_cons (pv 5) (pa_cons (pv 4) pa_nil))))
    (pss_cons (ps_set (i := 7) sc_do_cost.nd rfl (Or.inl rfl) (pe_ifExp (pt_cmpR op_isN (pv 6) pe_non (nomark _)) (pe_lst (pa_cons pe_int pa_nil)) (pe_lst (pa_cons pe_int (pa_cons (pv 6) pa_nil)))))
    (pss_one (ps_ret (pe_op op_cat (pv 7) (pe_lst (pa_cons (pe_f (c_plan_cost T) hr (by decide) rfl (pa_cons (pv 5) (pa_cons (pv 3) pa_nil))) (pa_cons (pe_fld (pv 5) rfl) pa_nil)))))))))), ?_⟩), F.binds fun _ _ _ _ _ _ us hl => match us, hl with | [_, _, _], _ => rfl⟩, T.g_do_cost, F.kp⟩
  obtain ⟨d, np, rp, f, nums, rows, c, rfl, ⟨l, pl, rfl, rfl, rfl⟩, D, q⟩ := h
  obtain ⟨dx, a, h1, hf⟩ := id D.desk
  obtain ⟨ra, rb, r1, r2, r3⟩ := row_two D.hr
  have hrun : Vbenae.run f (.cost l pl) = (Vbenae.asksIn f l >>= fun l => Vbenae.planArg f pl >>= fun p => .ok (f, Vbenae.firstOr (Vbenae.wrongAt f l p) ++ VbenCore.ints [Vbenae.cost f p, Vbenae.deepest p])) := rfl
  rw [hrun, bnd] at q
  refine ⟨_, rfl, d, _, dx, _, _, rfl, h1, T.cl_Desk, T.na_Desk_card_file, rfl, ?_⟩
  refine ⟨_, rfl, _, rfl, _, rfl, _, _, _, _, rfl, rfl, SqL.of r1, rfl, a, f, ra, l, rfl, hf, D.wf.asks, r2, ?_⟩
  cases ha : Vbenae.asksIn f l with
  | error e =>
    rw [ha] at q
    exact Rd.rf q fdr D.desk
  | ok qs =>
    rw [ha] at q
    dsimp only at q
    rw [bnd] at q
    intro H1 b e1 nb hq
    refine ⟨a, f, b, _, rfl, hf.ex e1, D.wf.marks, hq, by rw [List.length_map]; exact (asksIn_len ha).2, fun H2 pp e2 _ hpp => ?_⟩
    have e12 := ext e1 e2
    obtain ⟨dx2, m, ll, qq, ys, zs, g1, g2, g3, g4, g5, g6⟩ := id (hf.ex e12)
    refine ⟨_, rfl, _, _, _, _, rfl, rfl, SqL.of (e12 _ _ r1), rfl, _, rfl, a, _, dx2, _, _, rfl, g1, T.cl_CardFile, T.na_CardFile_marks, rfl, rb, m, pl, f, rfl, e12 _ _ r3, D.short _ (by simp), g2, D.wf.marks, ?_⟩
    unfold Vbenae.planArg at q
    cases hp : Vbenae.planOf f pl with
    | none =>
      rw [hp] at q
      exact Rd.rf q (fdx e12) (D.desk.ex e12)
    | some p =>
      rw [hp] at q
      dsimp only at q
      intro H3 v e3 hv
      refine ⟨_, rfl, _, rfl, v, _, _, pp, _, rfl, hv, e3 _ _ hpp, fun H4 e4 => ?_⟩
      rw [wrong_eq]
      have e14 := ext e12 (ext e3 e4)
      obtain ⟨x, xd, lp, ln, rfl, a1, a2, a3, a4⟩ := id hv
      refine ⟨_, rfl, rfl, _, rfl, ?_⟩
      cases hW : Vbenae.wrongAt f qs p with
      | none =>
        rw [hW] at q
        refine ifT rfl ⟨by show 1 ≤ sizeLine; decide, fun p0 hp0 => ?_⟩
        have e5 := exn (o := .lst [V.int 1]) hp0
        refine ⟨_, rfl, _, rfl, _, rfl, .ref x, _, a, f, rfl, hv.ex (ext e4 e5), hf.ex (ext e14 e5), D.wf, fun H6 e6 => ?_⟩
        refine ⟨_, rfl, x, _, xd, _, _, rfl, (ext e4 (ext e5 e6)) _ _ a1, T.cl_Parting, T.na_Parting_deepest, rfl, by show 2 ≤ sizeLine; decide, fun p1 hp1 => ?_⟩
        rw [cost_eq D.wf, lay_D]
        have e7 := exn (o := .lst [V.int (Vbenae.cost f p : Nat), V.int (Vbenae.deepest p : Nat)]) hp1
        refine ⟨_, _, _, _, rfl, rfl, e7 _ _ (e6 _ _ upd_same), upd_same, by show 1 + 2 ≤ sizeLine; decide, fun p2 hp2 => ?_⟩
        have ee := ext e14 (ext e5 (ext e6 (ext e7 (exn (o := .lst ([V.int 1] ++ [V.int (Vbenae.cost f p : Nat), V.int (Vbenae.deepest p : Nat)])) hp2))))
        exact q _ p2 (fdx ee) (D.desk.ex ee) D.wf upd_same
      | some n =>
        rw [hW] at q
        refine ifF (fun z => nomatch z) ⟨_, rfl, by show 2 ≤ sizeLine; decide, fun p0 hp0 => ?_⟩
        have e5 := exn (o := .lst [V.int 0, V.int (n : Nat)]) hp0
        refine ⟨_, rfl, _, rfl, _, rfl, .ref x, _, a, f, rfl, hv.ex (ext e4 e5), hf.ex (ext e14 e5), D.wf, fun H6 e6 => ?_⟩
        refine ⟨_, rfl, x, _, xd, _, _, rfl, (ext e4 (ext e5 e6)) _ _ a1, T.cl_Parting, T.na_Parting_deepest, rfl, by show 2 ≤ sizeLine; decide, fun p1 hp1 => ?_⟩
        rw [cost_eq D.wf, lay_D]
        have e7 := exn (o := .lst [V.int (Vbenae.cost f p : Nat), V.int (Vbenae.deepest p : Nat)]) hp1
        refine ⟨_, _, _, _, rfl, rfl, e7 _ _ (e6 _ _ upd_same), upd_same, by show 2 + 2 ≤ sizeLine; decide, fun p2 hp2 => ?_⟩
        have ee := ext e14 (ext e5 (ext e6 (ext e7 (exn (o := .lst ([V.int 0, V.int (n : Nat)] ++ [V.int (Vbenae.cost f p : Nat), V.int (Vbenae.deepest p : Nat)])) hp2))))
        exact q _ p2 (fdx ee) (D.desk.ex ee) D.wf upd_same
def S_card : Shp := fun nums rows c => ∃ z pl, nums = [z] ∧ rows = [pl] ∧ c = .card z pl
theorem sc_do_card : FnScope ["desk", "numbers", "rows", "notching", "parting"] ["desk", "numbers", "rows"] (defScope s_do_card) := C8.fnScope_by (by decide +kernel)
theorem c_do_card (T : Tx K mg) : Cal P w K mg base (L2.CX P w) 46 "do_card" a_do_card (sp_do K mg S_card) := by
  obtain ⟨fd, F⟩ := T.d_do_card
  refine ⟨⟨fd, ["desk", "numbers", "rows"], F.okX sc_do_card (fun vs H Q E h => by obtain ⟨d, np, rp, f, nums, rows, c, rfl, _⟩ := h; rfl) (fun cdv A outer s H vs Q E hr h => ⟨_, pss_cons (ps_set (i := 3) sc_do_card.nd rfl (Or.inl rfl) (pe_ix ix_list (pv 1) pe_int (fun _ _ => rfl)))
    (pss_cons (ps_expr (pe_fX (c_check_below T) hr (by decide) (passes_call (takes_of rfl rfl rfl rfl) fun _ _ _ _ z => z) rfl (pa_cons (pv 3) (pa_cons (C8.pe_gc rfl T.k_MOST_NOTCHINGS) pa_nil))))
    (pss_cons (ps_set (i := 4) sc_do_card.nd rfl (Or.inl rfl) (pe_fX (c_part_by_plan T) hr (by decide) (passes_call (takes_of rfl rfl rfl rfl) fun _ _ _ _ z => z) rfl (pa_cons (pe_ix ix_list (pv 2) pe_int (fun _ _ => rfl)) (pa_cons (pe_fld (pe_fld (pv 0) rfl) rfl) pa_nil))))
    (pss_cons (ps_if (pt_cmpR op_ge (pv 3) (pe_f (c_count_notchings T) hr (by decide) rfl (pa_cons (pe_fld (pe_fld (pv 0) rfl) rfl) pa_nil)) (nomark _)) (pss_one (ps_rz (r_NoNotching T) hr (by decide) rfl rfl (takes_of rfl rfl rfl rfl))) pss_nil)
    (pss_one (ps_ret (pe_lst (pa_cons (pe_ix ix_list (pe_fld (pv 4) rfl) (pv 3) (fun _ _ => rfl)) (pa_cons (pe_ix ix_list (pe_fld (pv 4) rfl) (pv 3) (fun _ _ => rfl)) pa_nil)))))))), ?_⟩), F.binds fun _ _ _ _ _ _ us hl => match us, hl with | [_, _, _], _ => rfl⟩, T.g_do_card, F.kp⟩
  obtain ⟨d, np, rp, f, nums, rows, c, rfl, ⟨z, pl, rfl, rfl, rfl⟩, D, q⟩ := h
  obtain ⟨dx, a, h1, hf⟩ := id D.desk
  obtain ⟨ra, r1, r2⟩ := row_one D.hr
  have hlm : (f.marks.map tx).length = f.marks.length := List.length_map ..
  have hrun : Vbenae.run f (.card z pl) = (Vbenae.ranged z 0 63 >>= fun n => Vbenae.planArg f pl >>= fun p => if n < 2 ^ f.marks.length then .ok (f, VbenCore.ints [Vbenae.pileOf p n, Vbenae.needlings p n]) else .error (-5)) := rfl
  rw [hrun, bnd] at q
  have hrg : (0 ≤ z ∧ z < 64 → Vbenae.ranged z 0 63 = .ok z.toNat) ∧ (z < 0 ∨ 64 ≤ z → Vbenae.ranged z 0 63 = .error (-3)) := by
    unfold Vbenae.ranged VbenCore.isBetween
    constructor
    · intro hz
      rw [if_pos (by simp only [Bool.and_eq_true, decide_eq_true_eq]; omega)]
    · intro hz
      rw [if_neg (by simp only [Bool.and_eq_true, decide_eq_true_eq]; omega)]
  refine ⟨_, rfl, _, _, _, _, rfl, rfl, SqL.of D.hn, rfl, _, rfl, z, 64, rfl, fun hz => ?_, fun hz => ?_⟩
  case refine_2 =>
    rw [hrg.2 hz] at q
    exact Rd.rf q fdr D.desk
  rw [hrg.1 hz] at q
  obtain ⟨n, rfl⟩ : ∃ n : Nat, z = n := ⟨z.toNat, by omega⟩
  dsimp only at q
  rw [bnd, Int.toNat_natCast] at q
  obtain ⟨dx2, m, ll, qq, ys, zs, g1, g2, g3, g4, g5, g6⟩ := id hf
  refine ⟨_, rfl, _, _, _, _, rfl, rfl, SqL.of r1, rfl, _, rfl, d, _, dx, _, _, rfl, h1, T.cl_Desk, T.na_Desk_card_file, rfl, a, _, dx2, _, _, rfl, g1, T.cl_CardFile, T.na_CardFile_marks, rfl, ra, m, pl, f, rfl, r2, D.short _ (by simp), g2, D.wf.marks, ?_⟩
  unfold Vbenae.planArg at q
  cases hp : Vbenae.planOf f pl with
  | none =>
    rw [hp] at q
    exact Rd.rf q fdr D.desk
  | some p =>
    rw [hp] at q
    dsimp only at q
    intro H1 v e1 hv
    obtain ⟨x, xd, lp, ln, rfl, a1, a2, a3, a4⟩ := id hv
    refine ⟨_, rfl, _, rfl, d, _, dx, _, _, rfl, e1 _ _ h1, T.cl_Desk, T.na_Desk_card_file, rfl, a, _, dx2, _, _, rfl, e1 _ _ g1, T.cl_CardFile, T.na_CardFile_marks, rfl, m, _, rfl, e1 _ _ g2, by rw [hlm]; exact D.wf.marks, _, _, rfl, rfl, _, rfl, ?_⟩
    rw [hlm]
    by_cases cc : n < 2 ^ f.marks.length
    case neg =>
      rw [if_neg cc] at q
      refine ifT (by omega) ?_
      exact Rf.go (Rd.rf q (fdx e1) (D.desk.ex e1)) T.x_NoNotching
    rw [if_pos cc] at q
    refine ifF (by omega) ?_
    refine ⟨_, rfl, x, _, xd, _, _, rfl, a1, T.cl_Parting, T.na_Parting_piles, rfl, _, rfl, _, _, _, _, rfl, rfl, SqL.of a2, atI_nat (nvs_at (tab_at cc)), _, rfl, x, _, xd, _, _, rfl, a1, T.cl_Parting, T.na_Parting_needlings, rfl, _, rfl, _, _, _, _, rfl, rfl, SqL.of a3, atI_nat (nvs_at (tab_at cc)), by show 2 ≤ sizeLine; decide, fun p0 hp0 => ?_⟩
    rw [lay_g p cc, lay_h p cc]
    have ee := ext e1 (exn (o := .lst [V.int (Vbenae.pileOf p n : Nat), V.int (Vbenae.needlings p n : Nat)]) hp0)
    exact q _ p0 (fdx ee) (D.desk.ex ee) D.wf upd_same
end
end N
namespace N
open PySem PySem.Spec PyProof.Rows L2 NX
open Vbenae (File Line Ask Plan)
theorem sum_leB {b : Nat} : ∀ {l : List Nat}, (∀ x ∈ l, x ≤ b) → l.sum ≤ l.length * b
  | [], _ => Nat.zero_le _
  | x :: l, h => by
    have h1 := h x List.mem_cons_self
    have h2 := sum_leB (l := l) fun y hy => h y (List.mem_cons_of_mem _ hy)
    rw [List.sum_cons, List.length_cons, Nat.succ_mul]
    omega
theorem total_le {f : File} (wf : Wf f) : Vbenae.total f ≤ 30000000 := by
  unfold Vbenae.total
  rw [foldl_add]
  have h := sum_leB (b := 1000000) (l := f.cards.map fun x => x.count) (fun x hx => by
    obtain ⟨y, hy, rfl⟩ := List.mem_map.mp hx
    exact (wf.line y hy).1)
  rw [List.length_map] at h
  have := wf.cards
  omega
theorem foldl_max : ∀ (l : List Nat) (a : Nat), (∀ x ∈ l, x ≤ l.foldl max a) ∧ a ≤ l.foldl max a ∧ (l.foldl max a = a ∨ l.foldl max a ∈ l)
  | [], a => ⟨(fun _ h => nomatch h), Nat.le_refl _, Or.inl rfl⟩
  | y :: l, a => by
    obtain ⟨h1, h2, h3⟩ := foldl_max l (max a y)
    refine ⟨fun x hx => ?_, ?_, ?_⟩
    · rcases List.mem_cons.mp hx with rfl | hx
      · exact Nat.le_trans (Nat.le_max_right a x) h2
      · exact h1 x hx
    · exact Nat.le_trans (Nat.le_max_left a y) h2
    · show l.foldl max (max a y) = a ∨ l.foldl max (max a y) ∈ y :: l
      rcases h3 with h3 | h3
      · rw [h3]
        by_cases c : y ≤ a
        · exact .inl (Nat.max_eq_left c)
        · right
          rw [Nat.max_eq_right (by omega)]
          exact List.mem_cons_self
      · exact .inr (List.mem_cons_of_mem _ h3)
theorem max_of {l : List Nat} {y : Int} (hy : y ∈ l.map fun (n : Nat) => (n : Int)) (hall : ∀ z ∈ l.map fun (n : Nat) => (n : Int), z ≤ y) : y = ((l.foldl max 0 : Nat) : Int) := by
  obtain ⟨x, hx, rfl⟩ := List.mem_map.mp hy
  obtain ⟨h1, h2, h3⟩ := foldl_max l 0
  have a1 := h1 x hx
  have a2 : l.foldl max 0 ≤ x := by
    rcases h3 with h3 | h3
    · omega
    · have := hall _ (List.mem_map.mpr ⟨_, h3, rfl⟩)
      omega
  omega
section
variable {P : Program} {w : World} {K : PySem.W.Frag} {mg : Str → Option Value} {base : Heap}
def S_accept : Shp := fun nums rows c => ∃ l dl, nums = [] ∧ rows = [l, dl] ∧ c = .accept l dl
theorem sc_do_accept : FnScope ["desk", "numbers", "rows", "questions", "labels", "too_great"] ["desk", "numbers", "rows"] (defScope s_do_accept) := C8.fnScope_by (by decide +kernel)
theorem c_do_accept (T : Tx K mg) : Cal P w K mg base (L2.CX P w) 46 "do_accept" a_do_accept (sp_do K mg S_accept) := by
  obtain ⟨fd, F⟩ := T.d_do_accept
  refine ⟨⟨fd, ["desk", "numbers", "rows"], F.okX sc_do_accept (fun vs H Q E h => by obtain ⟨d, np, rp, f, nums, rows, c, rfl, _⟩ := h; rfl) (fun cdv A outer s H vs Q E hr h => ⟨_, pss_cons (ps_set (i := 3) sc_do_accept.nd rfl (Or.inl rfl) (pe_fX (c_find_questions T) hr (by decide) (passes_call (takes_of rfl rfl rfl rfl) fun _ _ _ _ z => z) rfl (pa_cons (pe_fld (pv 0) rfl) (pa_cons (pe_ix ix_list (pv 2) pe_int (fun _ _ => rfl)) pa_nil))))
    (pss_cons (ps_set (i := 4) sc_do_accept.nd rfl (Or.inl rfl) (pe_ix ix_list (pv 2) pe_int (fun _ _ => rfl)))
    (pss_cons (ps_expr (pe_fX (c_check_labels T) hr (by decide) (passes_call (takes_of rfl rfl rfl rfl) fun _ _ _ _ z => z) rfl (pa_cons (pv 4) (pa_cons (pe_f (c_count_cubes T) hr (by decide) rfl (pa_cons (pe_fld (pe_fld (pv 0) rfl) rfl) pa_nil)) pa_nil))))
    (pss_cons (ps_set (i := 5) sc_do_accept.nd rfl (Or.inl rfl) (pe_f (c_first_too_great T) hr (by decide) rfl (pa_cons (pe_f (c_make_table T) hr (by decide) rfl (pa_cons (pe_fld (pv 0) rfl) (pa_cons (pv 3) pa_nil))) (pa_cons (pv 4) pa_nil))))
    (pss_cons (ps_if (pt_cmpR op_isN (pv 5) pe_non (nomark _)) (pss_one (ps_ret (pe_lst (pa_cons pe_int (pa_cons (pe_ix ix_list (pv 4) (pe_op op_sub (pe_callB call_len rfl T.f_len PySem.boot_len (pa_cons (pv 4) pa_nil)) pe_int) (fun _ _ => rfl)) pa_nil))))) pss_nil)
    (pss_one (ps_ret (pe_lst (pa_cons pe_int (pa_cons (pv 5) pa_nil))))))))), ?_⟩), F.binds fun _ _ _ _ _ _ us hl => match us, hl with | [_, _, _], _ => rfl⟩, T.g_do_accept, F.kp⟩
  obtain ⟨d, np, rp, f, nums, rows, c, rfl, ⟨l, dl, rfl, rfl, rfl⟩, D, q⟩ := h
  obtain ⟨dx, a, h1, hf⟩ := id D.desk
  obtain ⟨ra, rb, r1, r2, r3⟩ := row_two D.hr
  have h3 := pow3 D.wf.marks
  have hlm : (f.marks.map tx).length = f.marks.length := List.length_map ..
  have hrun : Vbenae.run f (.accept l dl) = (Vbenae.asksIn f l >>= fun l => if dl.length ≠ 3 ^ f.marks.length ∨ (dl.all fun z => VbenCore.isBetween z (-1000000000000) 1000000000000) = false then .error (-6)
    else match (List.range (3 ^ f.marks.length)).find? (badC (ent f l) f.marks.length dl) with
      | none => .ok (f, [1, dl.getD (3 ^ f.marks.length - 1) 0])
      | some c => .ok (f, [0, (c : Int)])) := rfl
  rw [hrun, bnd] at q
  refine ⟨_, rfl, d, _, dx, _, _, rfl, h1, T.cl_Desk, T.na_Desk_card_file, rfl, _, rfl, _, _, _, _, rfl, rfl, SqL.of r1, rfl, a, f, ra, l, rfl, hf, D.wf.asks, r2, ?_⟩
  cases ha : Vbenae.asksIn f l with
  | error e =>
    rw [ha] at q
    exact Rd.rf q fdr D.desk
  | ok qs =>
    rw [ha] at q
    dsimp only at q
    intro H1 b e1 nb hq
    obtain ⟨dx2, m, ll, qq, ys, zs, g1, g2, g3, g4, g5, g6⟩ := id (hf.ex e1)
    refine ⟨_, rfl, _, _, _, _, rfl, rfl, SqL.of (e1 _ _ r1), rfl, ?_⟩
    refine ⟨_, rfl, _, rfl, d, _, dx, _, _, rfl, e1 _ _ h1, T.cl_Desk, T.na_Desk_card_file, rfl, a, _, dx2, _, _, rfl, g1, T.cl_CardFile, T.na_CardFile_marks, rfl, m, _, rfl, g2, by rw [hlm]; exact D.wf.marks, rb, dl, _, rfl, e1 _ _ r3, ?_⟩
    rw [hlm]
    refine ⟨fun hc => ?_, fun hc1 hc2 => ?_⟩
    · rw [if_pos hc] at q
      exact Rd.rf q (fdx e1) (D.desk.ex e1)
    rw [if_neg (fun z => z.elim (fun z => z hc1) (fun z => by rw [hc2] at z; cases z))] at q
    refine ⟨_, rfl, d, _, dx, _, _, rfl, e1 _ _ h1, T.cl_Desk, T.na_Desk_card_file, rfl, _, rfl, a, b, f, _, ent f qs, rfl, hf.ex e1, D.wf, hq, by rw [List.length_map]; exact (asksIn_len ha).2, ent_tab f qs, fun H2 t e2 ht => ?_⟩
    refine ⟨_, rfl, t, rb, _, _, ent f qs, dl, rfl, ht, e2 _ _ (e1 _ _ r3), hc1, D.wf.marks, ent_open f qs, fun H3 e3 => ?_⟩
    have e13 := ext e1 (ext e2 e3)
    refine ⟨_, rfl, rfl, _, rfl, ?_⟩
    cases hB : (List.range (3 ^ f.marks.length)).find? (badC (ent f qs) f.marks.length dl) with
    | none =>
      rw [hB] at q
      have hli : (iv dl).length = 3 ^ f.marks.length := by rw [← hc1]; exact List.length_map ..
      refine ifT rfl ⟨_, rfl, _, rfl, _, _, rfl, .inl ⟨_, SqL.of (e13 _ _ r3), rfl⟩, _, _, rfl, rfl, _, _, _, _, rfl, rfl, SqL.of (e13 _ _ r3), (by
        rw [hli, show ((3 ^ f.marks.length : Nat) : Int) - 1 = ((3 ^ f.marks.length - 1 : Nat) : Int) by omega]
        exact atI_nat (iv_at (by omega))), by show 2 ≤ sizeLine; decide, fun p0 hp0 => ?_⟩
      have ee := ext e13 (exn (o := .lst [V.int 1, V.int (dl.getD (3 ^ f.marks.length - 1) 0)]) hp0)
      exact q _ p0 (fdx ee) (D.desk.ex ee) D.wf upd_same
    | some n =>
      rw [hB] at q
      refine ifF (fun z => nomatch z) ⟨_, rfl, by show 2 ≤ sizeLine; decide, fun p0 hp0 => ?_⟩
      have ee := ext e13 (exn (o := .lst [V.int 0, V.int (n : Nat)]) hp0)
      exact q _ p0 (fdx ee) (D.desk.ex ee) D.wf upd_same
def S_mean : Shp := fun nums rows c => ∃ l, nums = [] ∧ rows = [l] ∧ c = .mean l
theorem sc_do_mean : FnScope ["desk", "numbers", "rows", "questions", "cards", "cost", "divisor"] ["desk", "numbers", "rows"] (defScope s_do_mean) := C8.fnScope_by (by decide +kernel)
theorem c_do_mean (T : Tx K mg) : Cal P w K mg base (L2.CX P w) 46 "do_mean" a_do_mean (sp_do K mg S_mean) := by
  obtain ⟨fd, F⟩ := T.d_do_mean
  refine ⟨⟨fd, ["desk", "numbers", "rows"], F.okX sc_do_mean (fun vs H Q E h => by obtain ⟨d, np, rp, f, nums, rows, c, rfl, _⟩ := h; rfl) (fun cdv A outer s H vs Q E hr h => ⟨_, pss_cons (ps_set (i := 3) sc_do_mean.nd rfl (Or.inl rfl) (pe_fX (c_find_questions T) hr (by decide) (passes_call (takes_of rfl rfl rfl rfl) fun _ _ _ _ z => z) rfl (pa_cons (pe_fld (pv 0) rfl) (pa_cons (pe_ix ix_list (pv 2) pe_int (fun _ _ => rfl)) pa_nil))))
    (pss_cons (ps_set (i := 4) sc_do_mean.nd rfl (Or.inl rfl) (pe_f (c_count_cards T) hr (by decide) rfl (pa_cons (pe_fld (pv 0) rfl) pa_nil)))
    (pss_cons (ps_if (pt_cmpR op_eq (pv 4) pe_int (nomark _)) (pss_one (ps_rz (r_NoCards T) hr (by decide) rfl rfl (takes_of rfl rfl rfl rfl))) pss_nil)
    (pss_cons (ps_set (i := 5) sc_do_mean.nd rfl (Or.inl rfl) (pe_f (c_least_cost T) hr (by decide) rfl (pa_cons (pe_fld (pv 0) rfl) (pa_cons (pv 3) pa_nil))))
    (pss_cons (ps_set (i := 6) sc_do_mean.nd rfl (Or.inl rfl) (pe_f (c_greatest_divisor T) hr (by decide) rfl (pa_cons (pv 5) (pa_cons (pv 4) pa_nil))))
    (pss_one (ps_ret (pe_lst (pa_cons (pe_op op_fdiv (pv 5) (pv 6)) (pa_cons (pe_op op_fdiv (pv 4) (pv 6)) pa_nil))))))))), ?_⟩), F.binds fun _ _ _ _ _ _ us hl => match us, hl with | [_, _, _], _ => rfl⟩, T.g_do_mean, F.kp⟩
  obtain ⟨d, np, rp, f, nums, rows, c, rfl, ⟨l, rfl, rfl, rfl⟩, D, q⟩ := h
  obtain ⟨dx, a, h1, hf⟩ := id D.desk
  obtain ⟨ra, r1, r2⟩ := row_one D.hr
  have hrun : Vbenae.run f (.mean l) = (Vbenae.asksIn f l >>= fun l => if Vbenae.total f = 0 then .error (-7) else .ok (f, Vbenae.fracRow (VbenCore.frac ((ent f l (3 ^ f.marks.length - 1)).least : Int) (Vbenae.total f)))) := rfl
  rw [hrun, bnd] at q
  refine ⟨_, rfl, d, _, dx, _, _, rfl, h1, T.cl_Desk, T.na_Desk_card_file, rfl, _, rfl, _, _, _, _, rfl, rfl, SqL.of r1, rfl, a, f, ra, l, rfl, hf, D.wf.asks, r2, ?_⟩
  cases ha : Vbenae.asksIn f l with
  | error e =>
    rw [ha] at q
    exact Rd.rf q fdr D.desk
  | ok qs =>
    rw [ha] at q
    dsimp only at q
    intro H1 b e1 nb hq
    refine ⟨_, rfl, d, _, dx, _, _, rfl, e1 _ _ h1, T.cl_Desk, T.na_Desk_card_file, rfl, a, f, rfl, hf.ex e1, D.wf.cards, fun H2 e2 => ?_⟩
    have e12 := ext e1 e2
    refine ⟨_, rfl, rfl, _, rfl, ?_⟩
    by_cases c0 : Vbenae.total f = 0
    · rw [if_pos c0] at q
      refine ifT (by rw [c0] <;> rfl) ?_
      exact Rf.go (Rd.rf q (fdx e12) (D.desk.ex e12)) T.x_NoCards
    rw [if_neg c0] at q
    refine ifF (fun z => c0 (by have := V.int.inj z; omega)) ?_
    refine ⟨_, rfl, d, _, dx, _, _, rfl, e12 _ _ h1, T.cl_Desk, T.na_Desk_card_file, rfl, _, rfl, a, b, f, _, ent f qs, rfl, hf.ex e12, D.wf, hq.ex e2, by rw [List.length_map]; exact (asksIn_len ha).2, ent_tab f qs, fun H3 e3 => ?_⟩
    have e13 := ext e12 e3
    refine ⟨_, rfl, _, rfl, _, _, rfl, ?_⟩
    have hg : 0 < Nat.gcd (ent f qs (3 ^ f.marks.length - 1)).least (Vbenae.total f) := Nat.gcd_pos_of_pos_right _ (by omega)
    have hgt : Nat.gcd (ent f qs (3 ^ f.marks.length - 1)).least (Vbenae.total f) ≤ Vbenae.total f := Nat.gcd_le_right _ (by omega)
    have htt := total_le D.wf
    refine ⟨_, rfl, _, rfl, _, _, rfl, rfl, ?_, _, rfl, _, rfl, _, _, rfl, rfl, ?_, by show 2 ≤ sizeLine; decide, fun p0 hp0 => ?_⟩
    · exact ⟨by omega, by omega⟩
    · exact ⟨by omega, by omega⟩
    have ee := ext e13 (exn (o := .lst [V.int (((ent f qs (3 ^ f.marks.length - 1)).least : Int) / (Nat.gcd (ent f qs (3 ^ f.marks.length - 1)).least (Vbenae.total f) : Nat)), V.int ((Vbenae.total f : Int) / (Nat.gcd (ent f qs (3 ^ f.marks.length - 1)).least (Vbenae.total f) : Nat))]) hp0)
    refine q _ p0 (fdx ee) (D.desk.ex ee) D.wf ?_
    rw [upd_same]
    unfold VbenCore.frac
    rw [if_neg c0] <;> rfl
def S_together : Shp := fun nums rows c => ∃ l, nums = [] ∧ rows = [l] ∧ c = .together l
theorem sc_do_together : FnScope ["desk", "numbers", "rows", "questions", "alone", "question"] ["desk", "numbers", "rows"] (defScope s_do_together) := C8.fnScope_by (by decide +kernel)
theorem c_do_together (T : Tx K mg) : Cal P w K mg base (L2.CX P w) 46 "do_together" a_do_together (sp_do K mg S_together) := by
  obtain ⟨fd, F⟩ := T.d_do_together
  refine ⟨⟨fd, ["desk", "numbers", "rows"], F.okX sc_do_together (fun vs H Q E h => by obtain ⟨d, np, rp, f, nums, rows, c, rfl, _⟩ := h; rfl) (fun cdv A outer s H vs Q E hr h => ⟨_, pss_cons (ps_set (i := 3) sc_do_together.nd rfl (Or.inl rfl) (pe_fX (c_find_questions T) hr (by decide) (passes_call (takes_of rfl rfl rfl rfl) fun _ _ _ _ z => z) rfl (pa_cons (pe_fld (pv 0) rfl) (pa_cons (pe_ix ix_list (pv 2) pe_int (fun _ _ => rfl)) pa_nil))))
    (pss_cons (ps_setLc (i := 4) (own := [("question", 5)]) (g := gName 5) rfl sc_do_together.nd rfl rfl (sw_true rfl rfl rfl (by decide +kernel)) (pi_list (pv 3)) (blkOk_by (own := [("question", 5)]) (N := ["desk", "numbers", "rows", "questions", "alone", "question"]) (sc := defScope s_do_together) (by decide +kernel)) (fun _ _ _ _ _ => by exact (pg_name (i := 5) sc_do_together.nd rfl (Or.inl rfl))) (fun _ _ _ _ _ => by exact pts_nil) (fun _ _ _ _ _ => by exact (pe_f (c_least_cost T) hr (by decide) rfl (pa_cons (pe_fldK (K := K) rfl (pv 0) rfl) (pa_cons (pe_lst (pa_cons (pv 5) pa_nil)) pa_nil)))))
    (pss_one (ps_ret (pe_lst (pa_cons (pe_f (c_least_cost T) hr (by decide) rfl (pa_cons (pe_fld (pv 0) rfl) (pa_cons (pv 3) pa_nil))) (pa_cons (pe_callB (cr_sum rfl) rfl T.f_sum (by decide +kernel) (pa_cons (pv 4) pa_nil)) (pa_cons (pe_callB (cr_max rfl) rfl T.f_max (by decide +kernel) (pa_cons (pv 4) pa_nil)) pa_nil))))))), ?_⟩), F.binds fun _ _ _ _ _ _ us hl => match us, hl with | [_, _, _], _ => rfl⟩, T.g_do_together, F.kp⟩
  obtain ⟨d, np, rp, f, nums, rows, c, rfl, ⟨l, rfl, rfl, rfl⟩, D, q⟩ := h
  obtain ⟨dx, a, h1, hf⟩ := id D.desk
  obtain ⟨ra, r1, r2⟩ := row_one D.hr
  have hrun : Vbenae.run f (.together l) = (Vbenae.asksIn f l >>= fun l => .ok (f, VbenCore.ints [(ent f l (3 ^ f.marks.length - 1)).least, (l.map fun q => Vbenae.leastCost f [q]).foldl (fun a b => a + b) 0, (l.map fun q => Vbenae.leastCost f [q]).foldl max 0])) := rfl
  rw [hrun, bnd] at q
  refine ⟨_, rfl, d, _, dx, _, _, rfl, h1, T.cl_Desk, T.na_Desk_card_file, rfl, _, rfl, _, _, _, _, rfl, rfl, SqL.of r1, rfl, a, f, ra, l, rfl, hf, D.wf.asks, r2, ?_⟩
  cases ha : Vbenae.asksIn f l with
  | error e =>
    rw [ha] at q
    exact Rd.rf q fdr D.desk
  | ok qs =>
    rw [ha] at q
    dsimp only at q
    intro H1 b e1 nb hq
    obtain ⟨zq, hz1, hz2⟩ := id hq
    have hl6 := asksIn_len ha
    have hzl : qs.length = zq.length := by rw [← hz2.len, List.length_map]
    refine ⟨_, rfl, b, rfl, ⟨_, SqL.of hz1⟩, fun LD hLD => ?_⟩
    refine lc_map (walk_list (K := K) (a := b) (xs := zq)) (fun i => qs[i]?.elim .non fun q => .int (Vbenae.leastCost f [q] : Nat)) (by omega) hLD (fun H2 e2 => SqL.of (e2 _ _ hz1)) (fun i u H2 H' C hi e2 y hC => ?_) (fun H2 e2 h2' => ?_)
    · obtain ⟨rfl, hx⟩ := y
      obtain ⟨x, hx2, hQ⟩ := hz2.get' hx
      rw [List.getElem?_map] at hx2
      obtain ⟨qn, hqn, rfl⟩ := Option.map_eq_some_iff.mp hx2
      have hC' := fun H3 e3 => hC H3 e3
      rw [hqn] at hC'
      have e02 := ext e1 e2
      refine ⟨rfl, _, rfl, d, _, dx, _, _, rfl, e02 _ _ h1, T.cl_Desk, T.na_Desk_card_file, rfl, _, rfl, by show 1 ≤ sizeLine; decide, fun p0 hp0 => ?_⟩
      have e3 := exn (o := .lst [u]) hp0
      exact ⟨a, p0, f, [askOf f qn], ent f [qn], rfl, hf.ex (ext e02 e3), D.wf, ⟨[u], upd_same, ⟨hQ.ex (ext e2 e3), trivial⟩⟩, by show 1 ≤ 6; decide, ent_tab f [qn], fun H4 e4 => hC' _ (ext e3 e4)⟩
    · rw [← hzl, range_map] at h2'
      have hal : H2 LD = some (.lst (((qs.map fun q => Vbenae.leastCost f [q]).map fun (n : Nat) => (n : Int)).map V.int)) := by
        rw [h2', List.map_map, List.map_map] <;> rfl
      have e02 := ext e1 e2
      refine ⟨_, rfl, d, _, dx, _, _, rfl, e02 _ _ h1, T.cl_Desk, T.na_Desk_card_file, rfl, _, rfl, a, b, f, _, ent f qs, rfl, hf.ex e02, D.wf, hq.ex e2, by rw [List.length_map]; exact hl6.2, ent_tab f qs, fun H3 e3 => ?_⟩
      refine ⟨_, rfl, _, _, rfl, SqL.of (e3 _ _ hal), ?_⟩
      refine ⟨_, rfl, LD, _, rfl, SqL.of (e3 _ _ hal), by rw [List.length_map, List.length_map]; exact hl6.1, fun mx hm1 hm2 => ?_⟩
      refine ⟨by show 3 ≤ sizeLine; decide, fun p0 hp0 => ?_⟩
      rw [sum_ints, max_of hm1 hm2]
      have ee := ext e02 (ext e3 (exn (o := .lst [V.int ((ent f qs (3 ^ f.marks.length - 1)).least : Nat), V.int (((qs.map fun q => Vbenae.leastCost f [q]).foldl (fun a b => a + b) 0 : Nat) : Int), V.int (((qs.map fun q => Vbenae.leastCost f [q]).foldl max 0 : Nat) : Int)]) hp0))
      exact q _ p0 (fdx ee) (D.desk.ex ee) D.wf upd_same
end
end N
namespace N
open PySem PySem.Spec PyProof.Rows L2 NX
open Vbenae (File Line Ask Plan)
/-! ### rules: a call inside try, a written dict, a call of what a dict holds, a field of a refusal -/
section
variable {X : Cx} {CX : CXT} {k j : Nat} {f : Addr} {x : Str} {sp : Sp} {E : L2.St → XK} {p pos : Pos} {e fe : Expr} {es : List Expr} {t : TA} {tf : TE}
theorem pe_fS (c : Cal X.prog X.w X.K X.mg X.base CX k x f sp) (hr : Room j X.A) (hk : k ≤ j) (hg : Gl X x) (hx : ∀ σ, PassesAt CX X σ (E σ)) (ha : PA X (e :: es) t) (hdb : (x == ("__debug__" : Str)) = false := by decide)
    (he : starEach (e :: es) X.env = (false, eval e X.env) :: starEach es X.env := by rfl) (hpl : (backTo pos (starEach es X.env)).any (·.1) = false := by rfl) : PE X (.Call (.Name x p) (e :: es) [] pos) (tCallS sp E t) := by
  obtain ⟨fd, ps, F, b⟩ := c.ex
  exact pe_callS F (hr.mono hk) hg c.mgf c.kp b hx ha hdb he hpl
def rIxI (K : PySem.W.Frag) : R2 := fun x y H Q => ∃ (p : Addr) (k : Int) (v : V) (u : Value), x = .ref p ∧ y = .int k ∧ WAt K p k u ∧ RelV v u ∧ Q v H
theorem ix_wi : IxR X (rIxI X.K) := by
  intro value slice pins s σ H x y v u Q I rx ry h hs
  obtain ⟨p, z, r, u0, rfl, rfl, ⟨es, n, hl, hk, e⟩, ru, q⟩ := h
  obtain rfl : v = Value.ref p := rx
  obtain ⟨t, rfl⟩ := ry
  have hm : s.heap.MapOf (intKind X.prog X.w) p (fun k => findBy Value.isInt es k) := ⟨_, es, n, I.kIn _ _ hl, ⟨rfl, rfl, rfl⟩, rfl, fun e he => by
    obtain ⟨x, t, e1, e2⟩ := hk e (Array.mem_toList_iff.mpr he)
    exact ⟨x, by rw [e1]; exact intKind_is X.prog X.w x t, e2⟩, fun _ => rfl⟩
  exact tail_any hm.typeIs slot_dict_getitem.lookup (wpAny_getItem_of (intKind_is X.prog X.w z t) hm e ⟨r, H, I.tok _, ru, q⟩) hs
def tDo (P : Program) (w : World) (K : PySem.W.Frag) (mg : Str → Option Value) (base : Heap) (CX : CXT) (k : Nat) (E : L2.St → XK) (tf : TE) (t : TA) : TE := fun σ H Q => tf σ H fun y H1 => ∃ (f : Addr) (sp : Sp) (x : Str), y = .ref f ∧ Cal P w K mg base CX k x f sp ∧ t σ H1 fun vs H2 => sp vs H2 Q (E σ)
theorem pe_do (hf : PE X fe tf) (hr : Room j X.A) (hk : k ≤ j) (hx : ∀ σ, PassesAt CX X σ (E σ)) (ha : PA X (e :: es) t)
    (ht : eval (.Call fe (e :: es) [] pos) X.env = (do callWith pos (← eval fe X.env) [] (backTo pos (starEach (e :: es) X.env)) (backToKw pos (keywordEach [] X.env))) := by rfl)
    (he : starEach (e :: es) X.env = (false, eval e X.env) :: starEach es X.env := by rfl) (hpl : (backTo pos (starEach es X.env)).any (·.1) = false := by rfl) : PE X (.Call fe (e :: es) [] pos) (tDo X.prog X.w X.K X.mg X.base CX k E tf t) := by
  refine ⟨fun pins s σ H Q I h => ?_⟩
  refine Call_ (thn (hf.run pins s σ H _ I h) fun u s1 ⟨y, H1, I1, ry, f, sp, x, ey, c, q⟩ => ?_) ht
  subst ey
  obtain rfl : u = Value.ref f := ry
  obtain ⟨fd, ps, F, b⟩ := c.ex
  refine PySem.W.callWith_K (h₀ := X.base) I1.ok.mod.kin c.kp (thn (ha.run pos pins s1 σ H1 _ I1 q) fun us s2 ⟨vs, H2, I2, r, q2⟩ => ⟨I2.kIn, ?_⟩) he hpl
  exact run_fnS F (hr.mono hk) b (hx σ) I2 r q2
def tXe (K : PySem.W.Frag) (a : Addr) (cls : Value) (d : Option Addr) (n : Str) (te : TE) : TE := fun σ H Q => ∃ C, XfC K C ∧ PySem.W.findIn K (.ref C) n = some none ∧ tXf a cls d C n te σ H Q
theorem pe_xe {a : Addr} {oe : Obj} {cls : Value} {d : Option Addr} {pn : List (Addr × Obj)} {te : TE} {n : Str} (hz : Zc cls d oe) (hf : ∃ vs, oe.data = .fields vs) (he : PE (X.suite a ((a, oe) :: pn)) e te) (hb : attributeBase e n X.env (eval e X.env) = eval e X.env := by rfl) :
    PE (X.suite a ((a, oe) :: pn)) (.Attribute e n pos) (tXe X.K a cls d n te) := ⟨fun pins s σ H Q I h => by
  obtain ⟨C, T, hno, h⟩ := h
  exact (pe_xf T hno hz hf he hb).run pins s σ H Q I h⟩
end
section
variable {P : Program} {w : World} {K : PySem.W.Frag} {mg : Str → Option Value} {base : Heap}
theorem lk_p2 {p n : Int} : List.lookup ("place" : Str) [("place", V.int p), ("number", V.int n)] = some (.int p) := by rfl
def S_look : Shp := fun nums rows c => ∃ t, nums = [] ∧ rows = [t] ∧ c = .look t
theorem sc_do_look : FnScope ["desk", "numbers", "rows", "fault"] ["desk", "numbers", "rows"] (defScope s_do_look) := C8.fnScope_by (by decide +kernel)
theorem c_do_look (T : Tx K mg) : Cal P w K mg base (L2.CX P w) 46 "do_look" a_do_look (sp_do K mg S_look) := by
  obtain ⟨fd, F⟩ := T.d_do_look
  refine ⟨⟨fd, ["desk", "numbers", "rows"], F.okX sc_do_look (fun vs H Q E h => by obtain ⟨d, np, rp, f, nums, rows, c, rfl, _⟩ := h; rfl) (fun cdv A outer s H vs Q E hr h => ⟨_, pss_cons (ps_expr (pe_fX (c_check_text T) hr (by decide) (passes_call (takes_of rfl rfl rfl rfl) fun _ _ _ _ z => z) rfl (pa_cons (pe_ix ix_list (pv 2) pe_int (fun _ _ => rfl)) pa_nil)))
    (pss_cons (ps_try_as (i := 3) (tb := fun W => tDrop (tCallS sp_read_file (WE W) (tCons (tOp (rIxL K) (tVar 2) (tC (.int 0))) tNil))) (ts := fun a cls d => tRet (tLst (tCons (tC (.int 1)) (tCons (tXf a cls d a_TextFault "place" (tVar 3)) tNil)))) (Wout := fun _ _ _ _ => False) rfl rfl sc_do_look.nd rfl rfl ⟨rfl, by decide, Or.inl T.x_TextFault.gC⟩ takes0
      (fun W pn xe tk _ => pss_one (ps_expr (by exact (pe_fS (c_read_file T) hr (by decide) rfl (fun σ => passAt tk σ) (by exact (pa_cons (pe_ix ix_list (pv 2) pe_int (fun _ _ => rfl)) pa_nil))))))
      (fun a oe cls d pn hz hf => pss_one (ps_ret (by exact (pe_lst (pa_cons pe_int (pa_cons (pe_xf T.x_TextFault.xf T.x_TextFault.np hz hf (pv 3)) pa_nil)))))))
    (pss_one (ps_ret (pe_lst (pa_cons pe_int pa_nil))))), ?_⟩), F.binds fun _ _ _ _ _ _ us hl => match us, hl with | [_, _, _], _ => rfl⟩, T.g_do_look, F.kp⟩
  obtain ⟨d, np, rp, f, nums, rows, c, rfl, ⟨t, rfl, rfl, rfl⟩, D, q⟩ := h
  obtain ⟨dx, a, h1, hf⟩ := id D.desk
  obtain ⟨ra, r1, r2⟩ := row_one D.hr
  have hrun : Vbenae.run f (.look t) = (Vbenae.textIn t >>= fun b => match Vbenae.readFile b with
      | .error p => .ok (f, [1, (p : Int)])
      | .ok _ => .ok (f, [0])) := rfl
  rw [hrun, bnd] at q
  refine ⟨_, rfl, _, _, _, _, rfl, rfl, SqL.of r1, rfl, ra, t, rfl, r2, ?_⟩
  cases ht : Vbenae.textIn t with
  | error e =>
    rw [ht] at q
    exact Rd.rf q fdr D.desk
  | ok b =>
    rw [ht] at q
    dsimp only at q
    obtain ⟨t1, t2⟩ := textIn_ok ht
    rw [t1] at r2
    refine ⟨_, rfl, _, _, _, _, rfl, rfl, SqL.of r1, rfl, ra, b, rfl, r2, t2, ?_⟩
    cases hr : Vbenae.readFile b with
    | error p =>
      rw [hr] at q
      intro dd H1 f1 hdd
      refine ⟨true, T.x_tt, fun _ xa hxa => ?_, fun z => nomatch z⟩
      refine ⟨_, rfl, rfl, rfl, dd, _, _, rfl, hdd, lk_p2, by show 2 ≤ sizeLine; decide, fun p0 hp0 => ?_⟩
      have e2 := exn (o := .lst [V.int 1, V.int (p : Nat)]) hp0
      exact q _ p0 (fdt (fdc f1) (fdx e2)) ((D.desk.fr f1).ex e2) D.wf upd_same
    | ok g =>
      rw [hr] at q
      intro H1 b1 f1 hf1 wf1
      refine ⟨by show 1 ≤ sizeLine; decide, fun p0 hp0 => ?_⟩
      have e2 := exn (o := .lst [V.int 0]) hp0
      exact q _ p0 (fdt (fdc f1) (fdx e2)) ((D.desk.fr f1).ex e2) D.wf upd_same
end
end N
namespace N
open PySem PySem.Spec PyProof.Rows L2 NX
open Vbenae (File Line Ask Plan)
/-! ### a list that a call cannot know of stays as it is -/
def del (H : Hp) (ap : Addr) : Hp := fun b => if b = ap then none else H b
theorem del_same {H : Hp} {ap : Addr} : del H ap ap = none := if_pos rfl
theorem del_ne {H : Hp} {ap b : Addr} (h : b ≠ ap) : del H ap b = H b := if_neg h
theorem del_some {H : Hp} {ap b : Addr} {o : HO} (h : del H ap b = some o) : b ≠ ap ∧ H b = some o := by
  by_cases c : b = ap
  · rw [c, del_same] at h; cases h
  · rw [del_ne c] at h; exact ⟨c, h⟩
theorem del_upd {G : Hp} {ap : Addr} {o : HO} (h : G ap = none) : del (upd G ap o) ap = G := by
  funext b
  by_cases c : b = ap
  · rw [c, del_same, h]
  · rw [del_ne c, upd_ne c]
theorem upd_del {H : Hp} {ap : Addr} {o : HO} (h : H ap = some o) : upd (del H ap) ap o = H := by
  funext b
  by_cases c : b = ap
  · rw [c, upd_same, h]
  · rw [upd_ne c, del_ne c]
theorem hok_del {P : Program} {w : World} {H : Hp} {h : Heap} {ap : Addr} {xs : List V} (x : HOk P w H h) (ha : H ap = some (.lst xs)) : HOk P w (del H ap) h := fun b o e => by
  obtain ⟨c, e⟩ := del_some e
  exact (x b o e).stay (fun _ _ _ q => q) (fun y hy => by rw [del_ne (fun z => by rw [z, ha] at hy; cases hy)]; exact hy) (fun y ys hy => by rw [del_ne (fun z => by rw [z, ha] at hy; cases hy)]; exact hy)
def spF (sp : Sp) : Sp := fun vs H Q E => ∃ (G : Hp) (ap : Addr) (xs : List V), H = upd G ap (.lst xs) ∧ G ap = none ∧ sp vs G (fun v H' => H' ap = none → Q v (upd H' ap (.lst xs))) E
theorem frame_ok {P : Program} {w : World} {K : PySem.W.Frag} {mg : Str → Option Value} {base : Heap} {k : Nat} {f : Addr} {fd : FuncData} {ps : List Str} {sp : Sp} (F : FnOk P w K mg base CX0 k f fd ps sp) : FnOk P w K mg base CX0 k f fd ps (spF sp) := by
  refine ⟨fun vs H Q E h => ?_, fun A outer s H args us vs Q E hr e0 hb hv hs => ?_⟩
  · obtain ⟨G, ap, xs, _, _, h⟩ := h
    exact F.len _ _ _ _ h
  obtain ⟨G, ap, xs, hH, hG, h⟩ := hs
  have hap : H ap = some (.lst xs) := by rw [hH, upd_same]
  have hdel : del H ap = G := by rw [hH, del_upd hG]
  have hfr : ap ∉ frs outer := fun z => by
    have := e0.frf ap z
    rw [hap] at this; cases this
  obtain ⟨hsz, its, n, hvs, hget⟩ := (show ObjOk P w H s.heap ap (.lst xs) from e0.hok ap _ hap)
  have e1 : Env0 P w K mg base A outer s G := by
    rw [← hdel]
    refine ⟨e0.frames, e0.mod, fun b o hbo => ⟨(e0.bs b o hbo).1, ?_⟩, e0.bsz, e0.funs, fun b hbf => ?_, hok_del e0.hok hap, e0.bare⟩
    · unfold del; split
      · rfl
      · exact (e0.bs b o hbo).2
    · unfold del; split
      · rfl
      · exact e0.frf b hbf
  refine codeAny_mono (F.run A outer s G args us vs _ E hr e1 hb hv h) fun r s' hq => ?_
  cases r with
  | error e => exact hq
  | ok fl =>
    cases fl with
    | next => exact hq
    | brk => exact hq
    | cont => exact hq
    | ret u =>
      obtain ⟨v, H', h1, h2, U, hok, rv, q⟩ := hq
      have hn : H' ap = none := U.free ap _ hget hG (fun z => nomatch z)
      have hge : s'.heap.get? ap = some { cls := .type "list", data := .seq its.toArray n } := U.keep ap _ hget hG hfr (fun z => nomatch z)
      have hne : ∀ {b o}, H' b = some o → b ≠ ap := fun e z => by rw [z, hn] at e; cases e
      refine ⟨v, upd H' ap (.lst xs), h1, h2, ?_, ?_, rv, q hn⟩
      · have gb : ∀ b, H b = none → G b = none ∧ b ≠ ap := fun b hb => by
          have c : b ≠ ap := fun z => by rw [z, hap] at hb; cases hb
          rw [← hdel, del_ne c]
          exact ⟨hb, c⟩
        have gs : ∀ b o, (∀ ys, o ≠ .lst ys) → H b = some o → G b = some o ∧ b ≠ ap := fun b o ho hb => by
          have c : b ≠ ap := fun z => by rw [z, hap] at hb; exact ho xs (Option.some.inj hb).symm
          rw [← hdel, del_ne c]
          exact ⟨hb, c⟩
        refine ⟨fun b o e hb hf hx => U.keep b o e (gb b hb).1 hf hx, fun b o e hb hf hx => U.slot b o e (gb b hb).1 hf hx, fun b o e hb hx => ?_, fun b o e hx => U.there b o e hx, fun b ys e => ?_, fun b o u e => ?_, fun b ys e => ?_⟩
        · obtain ⟨c1, c2⟩ := gb b hb
          rw [upd_ne c2]
          exact U.free b o e c1 hx
        · obtain ⟨c1, c2⟩ := gs b _ (fun _ z => by cases z) e
          rw [upd_ne c2]
          exact U.tups b ys c1
        · obtain ⟨c1, c2⟩ := gs b _ (fun _ z => by cases z) e
          rw [upd_ne c2]
          exact U.frzs b o u c1
        · obtain ⟨c1, c2⟩ := gs b _ (fun _ z => by cases z) e
          rw [upd_ne c2]
          exact U.tbls b ys c1
      · intro b o e
        by_cases c : b = ap
        · subst c
          rw [upd_same] at e
          cases e
          exact ⟨hsz, its, n, hvs, hge⟩
        · rw [upd_ne c] at e
          exact (hok b o e).stay (fun _ _ _ q => q) (fun y hy => by rw [upd_ne (hne hy)]; exact hy) (fun y ys hy => by rw [upd_ne (hne hy)]; exact hy)
theorem Cal.frame {P : Program} {w : World} {K : PySem.W.Frag} {mg : Str → Option Value} {base : Heap} {k : Nat} {x : Str} {f : Addr} {sp : Sp} (c : Cal P w K mg base CX0 k x f sp) : Cal P w K mg base CX0 k x f (spF sp) := by
  obtain ⟨⟨fd, ps, F, b⟩, m, kp⟩ := c
  exact ⟨⟨fd, ps, frame_ok F, b⟩, m, kp⟩
/-! ### the shapes of the calls -/
def shpL : List Shp := [S_clear, S_file, S_look, S_text, S_put, S_drop, S_told, S_truth, S_falls, S_equal, S_within, S_hangs, S_least, S_cost, S_labels, S_accept, S_deep, S_card, S_together, S_mean, S_thumb, S_cube]
def ShpN (i : Nat) (nums : List Int) (rows : List (List Int)) (c : Vbenae.Call) : Prop := ∃ S, shpL[i]? = some S ∧ S nums rows c
def stepC (f : File) (c : Vbenae.Call) : File × List Int := match Vbenae.run f c with
  | .ok r => r
  | .error e => (f, [e])
section
variable {X : Cx} {a b : Expr} {ta tb : TE} {pos : Pos}
theorem pe_wget (ha : PE X a ta) (hb : PE X b tb) (hs : PlainIx b := by exact fun _ _ => rfl) : PE X (.Subscript a b pos) (tOp (rIxI X.K) ta tb) := pe_ix ix_wi ha hb hs
end
section
variable {P : Program} {w : World} {K : PySem.W.Frag} {mg : Str → Option Value} {base : Heap}
def sp_number_count : Sp := fun vs H Q _ => ∃ (i : Nat) (x : Nat × Nat), vs = [.int i] ∧ countsL[i]? = some x ∧ Q (.int (x.1 : Nat)) H
theorem sc_number_count : FnScope ["number"] ["number"] (defScope s_number_count) := C8.fnScope_by (by decide +kernel)
theorem c_number_count (T : Tx K mg) : Cal P w K mg base CX0 1 "number_count" a_number_count sp_number_count := by
  obtain ⟨fd, F⟩ := T.d_number_count
  refine ⟨⟨fd, ["number"], F.ok sc_number_count (fun vs H Q E h => by obtain ⟨i, x, rfl, _⟩ := h; rfl) (fun cdv A outer s H vs Q E hr h => ⟨_, pss_one (ps_ret (pe_ix ix_tup (pe_wget (C8.pe_gc rfl T.k_COUNTS) (pv 0)) pe_int (fun _ _ => rfl))), ?_⟩), F.binds fun _ _ _ _ _ _ us hl => match us, hl with | [_], _ => rfl⟩, T.g_number_count, F.kp⟩
  obtain ⟨i, x, rfl, hx, q⟩ := h
  obtain ⟨t, hw, ht⟩ := T.w_COUNTS i x hx
  exact ⟨_, rfl, a_COUNTS, _, .ref t, .ref t, rfl, rfl, hw, rfl, _, _, _, _, rfl, rfl, ht H, rfl, q⟩
def sp_row_count : Sp := fun vs H Q _ => ∃ (i : Nat) (x : Nat × Nat), vs = [.int i] ∧ countsL[i]? = some x ∧ Q (.int (x.2 : Nat)) H
theorem sc_row_count : FnScope ["number"] ["number"] (defScope s_row_count) := C8.fnScope_by (by decide +kernel)
theorem c_row_count (T : Tx K mg) : Cal P w K mg base CX0 1 "row_count" a_row_count sp_row_count := by
  obtain ⟨fd, F⟩ := T.d_row_count
  refine ⟨⟨fd, ["number"], F.ok sc_row_count (fun vs H Q E h => by obtain ⟨i, x, rfl, _⟩ := h; rfl) (fun cdv A outer s H vs Q E hr h => ⟨_, pss_one (ps_ret (pe_ix ix_tup (pe_wget (C8.pe_gc rfl T.k_COUNTS) (pv 0)) pe_int (fun _ _ => rfl))), ?_⟩), F.binds fun _ _ _ _ _ _ us hl => match us, hl with | [_], _ => rfl⟩, T.g_row_count, F.kp⟩
  obtain ⟨i, x, rfl, hx, q⟩ := h
  obtain ⟨t, hw, ht⟩ := T.w_COUNTS i x hx
  exact ⟨_, rfl, a_COUNTS, _, .ref t, .ref t, rfl, rfl, hw, rfl, _, _, _, _, rfl, rfl, ht H, rfl, q⟩
theorem doers (T : Tx K mg) : ∀ (i : Nat) S, shpL[i]? = some S → ∃ x fa, doersA[i]? = some fa ∧ Cal P w K mg base (L2.CX P w) 46 x fa (sp_do K mg S)
  | 0, S, h => by cases h; exact ⟨_, _, rfl, c_do_clear T⟩
  | 1, S, h => by cases h; exact ⟨_, _, rfl, c_do_file T⟩
  | 2, S, h => by cases h; exact ⟨_, _, rfl, c_do_look T⟩
  | 3, S, h => by cases h; exact ⟨_, _, rfl, c_do_text T⟩
  | 4, S, h => by cases h; exact ⟨_, _, rfl, c_do_put T⟩
  | 5, S, h => by cases h; exact ⟨_, _, rfl, c_do_drop T⟩
  | 6, S, h => by cases h; exact ⟨_, _, rfl, c_do_told T⟩
  | 7, S, h => by cases h; exact ⟨_, _, rfl, c_do_truth T⟩
  | 8, S, h => by cases h; exact ⟨_, _, rfl, c_do_falls T⟩
  | 9, S, h => by cases h; exact ⟨_, _, rfl, c_do_equal T⟩
  | 10, S, h => by cases h; exact ⟨_, _, rfl, c_do_within T⟩
  | 11, S, h => by cases h; exact ⟨_, _, rfl, c_do_hangs T⟩
  | 12, S, h => by cases h; exact ⟨_, _, rfl, c_do_least T⟩
  | 13, S, h => by cases h; exact ⟨_, _, rfl, c_do_cost T⟩
  | 14, S, h => by cases h; exact ⟨_, _, rfl, c_do_labels T⟩
  | 15, S, h => by cases h; exact ⟨_, _, rfl, c_do_accept T⟩
  | 16, S, h => by cases h; exact ⟨_, _, rfl, c_do_deep T⟩
  | 17, S, h => by cases h; exact ⟨_, _, rfl, c_do_card T⟩
  | 18, S, h => by cases h; exact ⟨_, _, rfl, c_do_together T⟩
  | 19, S, h => by cases h; exact ⟨_, _, rfl, c_do_mean T⟩
  | 20, S, h => by cases h; exact ⟨_, _, rfl, c_do_thumb T⟩
  | 21, S, h => by cases h; exact ⟨_, _, rfl, c_do_cube T⟩
  | n + 22, S, h => by cases h
end
end N
namespace N
open PySem PySem.Spec PyProof.Rows L2 NX
open Vbenae (File Line Ask Plan)
section
variable {P : Program} {w : World} {K : PySem.W.Frag} {mg : Str → Option Value} {base : Heap}
def sp_answer_call : Sp := fun vs H Q _ => ∃ (d np rp : Addr) (n : Nat) (f : File) (nums : List Int) (rows : List (List Int)) (c : Vbenae.Call), vs = [.ref d, .int n, .ref np, .ref rp] ∧ ShpN n nums rows c ∧ Des H d f np rp nums rows ∧
  ∀ H' p, Fd H H' → DeskAt H' d (stepC f c).1 → Wf (stepC f c).1 → H' p = some (.lst (iv (stepC f c).2)) → Q (.ref p) H'
theorem sc_answer_call : FnScope ["desk", "number", "numbers", "rows", "refusal"] ["desk", "number", "numbers", "rows"] (defScope s_answer_call) := C8.fnScope_by (by decide +kernel)
theorem d_answer_call (T : Tx K mg) : Cal P w K mg base CX0 47 "answer_call" a_answer_call sp_answer_call := by
  obtain ⟨fd, F⟩ := T.d_answer_call
  refine ⟨⟨fd, ["desk", "number", "numbers", "rows"], F.ok sc_answer_call (fun vs H Q E h => by obtain ⟨d, np, rp, n, f, nums, rows, c, rfl, _⟩ := h; rfl) (fun cdv A outer s H vs Q E hr h => ⟨_, pss_one (ps_try_as (i := 4) (tb := fun W => tRet (tDo P w K mg base (L2.CX P w) 46 (WE W) (tOp (rIxI K) (tC (.ref a_DOERS)) (tVar 1)) (tCons (tVar 0) (tCons (tVar 2) (tCons (tVar 3) tNil))))) (ts := fun a cls d => tRet (tLst (tCons (tXe K a cls d "number" (tVar 4)) tNil))) (Wout := fun _ _ _ _ => False) rfl rfl sc_answer_call.nd rfl rfl ⟨rfl, by decide, Or.inl T.x_ref.gR⟩ takes0
      (fun W pn xe tk _ => pss_one (ps_ret (by exact (pe_do (pe_wget (C8.pe_gc rfl T.k_DOERS) (pv 1)) hr (by decide) (fun σ => passAt tk σ) (by exact (pa_cons (pv 0) (pa_cons (pv 2) (pa_cons (pv 3) pa_nil))))))))
      (fun a oe cls d pn hz hf => pss_one (ps_ret (by exact (pe_lst (pa_cons (pe_xe hz hf (pv 4)) pa_nil)))))), ?_⟩), F.binds fun _ _ _ _ _ _ us hl => match us, hl with | [_, _, _, _], _ => rfl⟩, T.g_answer_call, F.kp⟩
  obtain ⟨d, np, rp, n, f, nums, rows, c, rfl, ⟨S, hS, hc⟩, D, q⟩ := h
  obtain ⟨x, fa, hfa, cal⟩ := doers (P := P) (w := w) (base := base) T n S hS
  refine ⟨_, rfl, a_DOERS, n, .ref fa, .ref fa, rfl, rfl, T.w_DOERS n fa hfa, rfl, fa, _, x, rfl, cal, _, rfl, _, rfl, _, rfl, d, np, rp, f, nums, rows, c, rfl, hc, D, ?_⟩
  unfold stepC at q
  cases hr : Vbenae.run f c with
  | ok r =>
    rw [hr] at q
    exact q
  | error e =>
    rw [hr] at q
    intro x C fI dd fs H' o f1 hd1 hdd hlk
    refine ⟨true, o.te, fun _ xa hxa => ?_, fun z => nomatch z⟩
    refine ⟨C, o.xf, o.nn, _, rfl, rfl, rfl, dd, fs, _, rfl, hdd, hlk, by show 1 ≤ sizeLine; decide, fun p0 hp0 => ?_⟩
    have e2 := exn (o := .lst [V.int e]) hp0
    exact q _ p0 (fdt f1 (fdx e2)) (hd1.ex e2) D.wf upd_same
theorem c_answer_call (T : Tx K mg) : Cal P w K mg base CX0 47 "answer_call" a_answer_call (spF sp_answer_call) := (d_answer_call T).frame
end
/-! ### rows -/
theorem rows_succ {k : Nat} {s : List Int} {rs : List (List Int)} {t : List Int} (h : PyFlat.rows (k + 1) s = some (rs, t)) : ∃ m s' rs', s = m :: s' ∧ 0 ≤ m ∧ m.toNat ≤ s'.length ∧ rs = s'.take m.toNat :: rs' ∧ PyFlat.rows k (s'.drop m.toNat) = some (rs', t) := by
  unfold PyFlat.rows at h
  cases s with
  | nil => cases h
  | cons m s' =>
    unfold PyFlat.row at h
    dsimp only at h
    by_cases c : 0 ≤ m ∧ m.toNat ≤ s'.length
    · rw [if_pos c] at h
      dsimp only at h
      cases hr : PyFlat.rows k (s'.drop m.toNat) with
      | none => rw [hr] at h; cases h
      | some y =>
        rw [hr] at h
        cases h
        exact ⟨m, s', _, rfl, c.1, c.2, rfl, hr⟩
    · rw [if_neg c] at h
      cases h
theorem rows_len : ∀ (k : Nat) (s : List Int) (rs : List (List Int)) (t : List Int), PyFlat.rows k s = some (rs, t) → rs.length = k ∧ (rs.map fun r => 1 + r.length).sum ≤ s.length ∧ t = s.drop (rs.map fun r => 1 + r.length).sum
  | 0, s, rs, t, h => by cases h; exact ⟨rfl, Nat.zero_le _, rfl⟩
  | k + 1, s, rs, t, h => by
    obtain ⟨m, s', rs', rfl, h0, h1, rfl, h2⟩ := rows_succ h
    obtain ⟨a1, a2, a3⟩ := rows_len k _ _ _ h2
    have hl : (s'.take m.toNat).length = m.toNat := by rw [List.length_take]; omega
    rw [List.length_drop] at a2
    refine ⟨by rw [List.length_cons, a1], ?_, ?_⟩
    · rw [List.map_cons, List.sum_cons, hl, List.length_cons]
      omega
    · rw [List.map_cons, List.sum_cons, hl, a3, List.drop_drop, Nat.add_comm 1 m.toNat, Nat.add_right_comm, List.drop_succ_cons]
theorem iv_drop (l : List Int) (n : Nat) : (iv l).drop n = iv (l.drop n) := (List.map_drop ..).symm
theorem iv_take (l : List Int) (n : Nat) : (iv l).take n = iv (l.take n) := (List.map_take ..).symm
theorem drop_cons {l : List Int} {n : Nat} {m : Int} {s : List Int} (h : l.drop n = m :: s) : n < l.length ∧ l[n]? = some m ∧ l.drop (n + 1) = s := by
  have h1 : n < l.length := by
    by_cases c : n < l.length
    · exact c
    · rw [List.drop_eq_nil_of_le (by omega)] at h; cases h
  refine ⟨h1, ?_, ?_⟩
  · have := List.getElem?_drop (xs := l) (i := n) (j := 0)
    rw [h] at this
    exact this.symm
  · have := List.drop_drop (l := l) (i := 1) (j := n)
    rw [h] at this
    rw [← this]; rfl
section
variable {P : Program} {w : World} {K : PySem.W.Frag} {mg : Str → Option Value} {base : Heap}
def RowB (H : Hp) (bad : Addr) (r : List Int) (v : V) : Prop := ∃ a : Addr, v = .ref a ∧ H a = some (.lst (iv r)) ∧ a ≠ bad
def sp_read_rows (K : PySem.W.Frag) : Sp := fun vs H Q _ => ∃ (a : Addr) (l : List Int) (pl k : Nat) (rs : List (List Int)) (t : List Int), vs = [.ref a, .int pl, .int k] ∧ SqL K H a (iv l) ∧ PyFlat.rows k (l.drop pl) = some (rs, t) ∧ k ≤ 2 ∧
  ∀ H' p, Ex H H' → RowsAt H' p rs → Q (.ref p) H'
namespace Raw
theorem sc_read_rows : FnScope ["calls", "place", "many", "rows", "begin"] ["calls", "place", "many"] (defScope s_read_rows) := C8.fnScope_by (by decide +kernel)
theorem c_read_rows (T : Tx K mg) : Cal P w K mg base CX0 1 "read_rows" a_read_rows (sp_read_rows K) := by
  obtain ⟨fd, F⟩ := T.d_read_rows
  refine ⟨⟨fd, ["calls", "place", "many"], F.ok sc_read_rows (fun vs H Q E h => by obtain ⟨a, l, pl, k, rs, t, rfl, _⟩ := h; rfl) (fun cdv A outer s H vs Q E hr h => ⟨_, pss_cons (ps_set (i := 3) sc_read_rows.nd rfl (Or.inl rfl) (pe_lst pa_nil))
    (pss_cons (ps_while PassesOwn.never (pt_cmpR op_lt (pe_callB call_len rfl T.f_len PySem.boot_len (pa_cons (pv 3) pa_nil)) (pv 2) (nomark _))
    (pss_cons (ps_set (i := 4) sc_read_rows.nd rfl (Or.inl rfl) (pe_op op_add (pv 1) pe_int))
    (pss_cons (ps_set (i := 1) sc_read_rows.nd rfl (Or.inl rfl) (pe_op op_add (pv 4) (pe_ix ix_list (pv 0) (pv 1) (fun _ _ => rfl))))
    (pss_one (ps_expr (pe_bm PySem.F.plainAttrs_list PySem.F.slot_list_append PySem.F.type_list_append mt_append (pv 3) (pa_cons (pe_slice sl_list (pv 0) (po_some (pv 4)) (po_some (pv 1))) pa_nil)))))))
    (pss_one (ps_ret (pv 3)))), ?_⟩), F.binds fun _ _ _ _ _ _ us hl => match us, hl with | [_, _, _], _ => rfl⟩, T.g_read_rows, F.kp⟩
  obtain ⟨a, l, pl, k, rs, t, rfl, ha, hrs, hk, q⟩ := h
  refine ⟨szl (Nat.zero_le _), fun rp hrp => ?_⟩
  have e0 := exn (o := .lst []) hrp
  refine ⟨fun j σ H' => ∃ (pl : Nat) (don todo : List (List Int)) (zs : List V) (u : Option V), σ = [some (.ref a), some (.int (pl : Nat)), some (.int (k : Nat)), some (.ref rp), u] ∧ j = todo.length ∧ Ex H H' ∧ H' rp = some (.lst zs) ∧ Al (RowB H' rp) don zs ∧ rs = don ++ todo ∧ PyFlat.rows todo.length (l.drop pl) = some (todo, t) ∧ don.length + todo.length = k, ⟨_, pl, [], rs, [], _, rfl, rfl, e0, upd_same, trivial, rfl, by rw [(rows_len _ _ _ _ hrs).1]; exact hrs, by rw [(rows_len _ _ _ _ hrs).1]; exact Nat.zero_add _⟩, ?_⟩
  rintro j σ H' ⟨pl, don, todo, zs, u, rfl, rfl, e1, hr, hal, hsp, hro, hlen⟩
  have hzl := hal.len
  refine ⟨_, rfl, _, _, rfl, .inl ⟨_, SqL.of hr, rfl⟩, _, rfl, _, _, rfl, rfl, _, rfl, ?_⟩
  cases todo with
  | nil =>
    refine ifF (by rw [List.length_nil] at hlen; omega) ⟨_, rfl, ?_⟩
    refine q _ rp e1 ⟨zs, hr, ?_⟩
    rw [hsp, List.append_nil]
    exact hal.imp fun r v z => by
      obtain ⟨b, h1, h2, _⟩ := z
      exact ⟨b, h1, h2⟩
  | cons r0 td =>
    rw [List.length_cons] at hlen hro
    refine ifT (by omega) ⟨fun σ' H2 => _, fun _ _ z => z, ?_⟩
    obtain ⟨m, s', rs', hs, m0, m1, hcons, hro2⟩ := rows_succ hro
    obtain ⟨p1, p2, p3⟩ := drop_cons hs
    cases hcons
    obtain ⟨mm, rfl⟩ : ∃ mm : Nat, m = mm := ⟨m.toNat, by omega⟩
    rw [Int.toNat_natCast] at *
    have hsl : s'.length + (pl + 1) = l.length := by rw [← p3, List.length_drop]; omega
    have ha1 : SqL K H' a (iv l) := exl e1 ha
    have hil : (iv l).length = l.length := List.length_map ..
    refine ⟨_, rfl, _, _, rfl, rfl, ?_⟩
    refine ⟨_, rfl, _, rfl, _, rfl, _, _, _, _, rfl, rfl, ha1, atI_nat (show (iv l)[pl]? = some (.int (mm : Nat)) by show (List.map _ l)[pl]? = _; rw [List.getElem?_map, p2] <;> rfl), _, _, rfl, rfl, ?_⟩
    refine ⟨_, rfl, .inl ⟨rfl, _, SqL.of hr⟩, _, rfl, _, rfl, _, rfl, _, rfl, _, rfl, a, _, rfl, ha1, fun p hp => ?_⟩
    have hpr : rp ≠ p := ne_of_none hr hp
    have hcut : cutV (iv l) (some ((pl : Int) + 1)) (some ((pl : Int) + 1 + (mm : Int))) = iv (s'.take mm) := by
      rw [show (pl : Int) + 1 = ((pl + 1 : Nat) : Int) by omega, show ((pl + 1 : Nat) : Int) + (mm : Int) = ((pl + 1 + mm : Nat) : Int) by omega, cut_mid (by omega) (by omega), Nat.add_sub_cancel_left, iv_drop, p3, iv_take]
    have e2 := exn (o := .lst (cutV (iv l) (some ((pl : Int) + 1)) (some ((pl : Int) + 1 + (mm : Int))))) hp
    have hr2 := e2 _ _ hr
    refine ⟨rp, _, _, rfl, rfl, hr2, szs (by omega), ?_⟩
    refine ⟨td.length, Nat.lt_succ_self _, pl + 1 + mm, don ++ [s'.take mm], td, zs ++ [.ref p], some (.int ((pl : Int) + 1)), ?_, rfl, exm (ext e1 e2) hrp, upd_same, ?_, ?_, ?_, ?_⟩
    · show [some (V.ref a), some (V.int ((pl : Int) + 1 + (mm : Int))), some (V.int (k : Nat)), some (V.ref rp), some (V.int ((pl : Int) + 1))] = _
      rw [show (pl : Int) + 1 + (mm : Int) = ((pl + 1 + mm : Nat) : Int) by omega]
    · refine (hal.imp fun r v z => ?_).snoc ?_
      · obtain ⟨b, h1, h2, h3⟩ := z
        exact ⟨b, h1, by rw [upd_ne h3]; exact e2 _ _ h2, h3⟩
      · exact ⟨p, rfl, by rw [upd_ne hpr.symm, upd_same, hcut], hpr.symm⟩
    · rw [hsp, List.append_assoc] <;> rfl
    · rw [← p3, List.drop_drop] at hro2
      exact hro2
    · rw [List.length_append]
      show don.length + 1 + td.length = k
      omega
end Raw
end
end N
namespace N
open PySem PySem.Spec PyProof.Rows L2 NX
open Vbenae (File Line Ask Plan)
theorem lists_short : ∀ (b : List (Int × Int × Nat × Nat)) (rows : List (List Int)), (b.all fun x => decide (x.2.2.2 ≤ 3000)) = true → rows.length ≤ b.length → PyInside.lists b rows = true → ∀ r ∈ rows, r.length ≤ 3000
  | _, [], _, _, _, _, h => nomatch h
  | [], _ :: _, _, h, _, _, _ => absurd h (by rw [List.length_cons, List.length_nil]; omega)
  | (lo, hi, x, y) :: b, r :: rows, h1, h2, h3, r', hr => by
    rw [List.all_cons, Bool.and_eq_true, decide_eq_true_eq] at h1
    unfold PyInside.lists at h3
    simp only [Bool.and_eq_true, decide_eq_true_eq] at h3
    rcases List.mem_cons.mp hr with rfl | hr
    · exact Nat.le_trans h3.1.1.2 h1.1
    · exact lists_short b rows h1.2 (by rw [List.length_cons, List.length_cons] at h2; omega) h3.2 r' hr
structure OneC (p : Int) (nums : List Int) (rows : List (List Int)) (n k : Nat) (i : Nat) (c : Vbenae.Call) : Prop where
  pi : p = (i : Nat)
  cnt : countsL[i]? = some (n, k)
  shp : ShpN i nums rows c
  dec : ∀ f, VbenaeNeutral.step f (PyVbenae.whole ((p :: nums) :: rows)) = stepC f c
  short : ∀ r ∈ rows, r.length ≤ 3000
theorem len0 {α : Type} {l : List α} (h : l.length = 0) : l = [] := List.length_eq_zero_iff.mp h
theorem len1 {α : Type} {l : List α} (h : l.length = 1) : ∃ x, l = [x] := List.length_eq_one_iff.mp h
theorem len2 {α : Type} : ∀ {l : List α}, l.length = 2 → ∃ x y, l = [x, y]
  | [x, y], _ => ⟨x, y, rfl⟩
theorem call_short {p : Int} {nums : List Int} {rows : List (List Int)} (hb : PyInside.call PyVbenae.bound ((p :: nums) :: rows) = true) : PyInside.lists (PyVbenae.bound p).2 rows = true := by
  unfold PyInside.call at hb
  exact (Bool.and_eq_true_iff.mp hb).2
theorem one_call {p : Int} {nums : List Int} {rows : List (List Int)} {n k : Nat} (hs : PyVbenae.shape p = some (n, k)) (hn : nums.length = n) (hk : rows.length = k) (hb : PyInside.call PyVbenae.bound ((p :: nums) :: rows) = true) : ∃ i c, OneC p nums rows n k i c := by
  have hl := call_short hb
  unfold PyVbenae.shape at hs
  by_cases h0 : p = 0
  · rw [if_pos h0] at hs
    cases hs
    subst h0
    cases len0 hn
    cases len0 hk
    exact ⟨0, .clear, rfl, rfl, ⟨S_clear, rfl, ⟨rfl, rfl, rfl⟩⟩, fun f => rfl, (fun r hr => nomatch hr)⟩
  rw [if_neg h0] at hs
  by_cases h1 : p = 1
  · rw [if_pos h1] at hs
    cases hs
    subst h1
    cases len0 hn
    obtain ⟨r, rfl⟩ := len1 hk
    exact ⟨1, .file r, rfl, rfl, ⟨S_file, rfl, ⟨r, rfl, rfl, rfl⟩⟩, fun f => rfl, (lists_short _ _ (by decide +kernel) (by show 1 ≤ (PyVbenae.bound 1).2.length; decide +kernel) hl)⟩
  rw [if_neg h1] at hs
  by_cases h2 : p = 2
  · rw [if_pos h2] at hs
    cases hs
    subst h2
    cases len0 hn
    obtain ⟨r, rfl⟩ := len1 hk
    exact ⟨2, .look r, rfl, rfl, ⟨S_look, rfl, ⟨r, rfl, rfl, rfl⟩⟩, fun f => rfl, (lists_short _ _ (by decide +kernel) (by show 1 ≤ (PyVbenae.bound 2).2.length; decide +kernel) hl)⟩
  rw [if_neg h2] at hs
  by_cases h3 : p = 3
  · rw [if_pos h3] at hs
    cases hs
    subst h3
    cases len0 hn
    cases len0 hk
    exact ⟨3, .text, rfl, rfl, ⟨S_text, rfl, ⟨rfl, rfl, rfl⟩⟩, fun f => rfl, (fun r hr => nomatch hr)⟩
  rw [if_neg h3] at hs
  by_cases h4 : p = 4
  · rw [if_pos h4] at hs
    cases hs
    subst h4
    cases len0 hn
    obtain ⟨r, rfl⟩ := len1 hk
    exact ⟨4, .put r, rfl, rfl, ⟨S_put, rfl, ⟨r, rfl, rfl, rfl⟩⟩, fun f => rfl, (lists_short _ _ (by decide +kernel) (by show 1 ≤ (PyVbenae.bound 4).2.length; decide +kernel) hl)⟩
  rw [if_neg h4] at hs
  by_cases h5 : p = 5
  · rw [if_pos h5] at hs
    cases hs
    subst h5
    obtain ⟨x, rfl⟩ := len1 hn
    cases len0 hk
    exact ⟨5, .drop x, rfl, rfl, ⟨S_drop, rfl, ⟨x, rfl, rfl, rfl⟩⟩, fun f => rfl, (fun r hr => nomatch hr)⟩
  rw [if_neg h5] at hs
  by_cases h6 : p = 6
  · rw [if_pos h6] at hs
    cases hs
    subst h6
    cases len0 hn
    cases len0 hk
    exact ⟨6, .told, rfl, rfl, ⟨S_told, rfl, ⟨rfl, rfl, rfl⟩⟩, fun f => rfl, (fun r hr => nomatch hr)⟩
  rw [if_neg h6] at hs
  by_cases h7 : p = 7
  · rw [if_pos h7] at hs
    cases hs
    subst h7
    obtain ⟨x, rfl⟩ := len1 hn
    cases len0 hk
    exact ⟨7, .truth x, rfl, rfl, ⟨S_truth, rfl, ⟨x, rfl, rfl, rfl⟩⟩, fun f => rfl, (fun r hr => nomatch hr)⟩
  rw [if_neg h7] at hs
  by_cases h8 : p = 8
  · rw [if_pos h8] at hs
    cases hs
    subst h8
    obtain ⟨x, rfl⟩ := len1 hn
    cases len0 hk
    exact ⟨8, .falls x, rfl, rfl, ⟨S_falls, rfl, ⟨x, rfl, rfl, rfl⟩⟩, fun f => rfl, (fun r hr => nomatch hr)⟩
  rw [if_neg h8] at hs
  by_cases h9 : p = 9
  · rw [if_pos h9] at hs
    cases hs
    subst h9
    obtain ⟨x, y, rfl⟩ := len2 hn
    cases len0 hk
    exact ⟨9, .equal x y, rfl, rfl, ⟨S_equal, rfl, ⟨x, y, rfl, rfl, rfl⟩⟩, fun f => rfl, (fun r hr => nomatch hr)⟩
  rw [if_neg h9] at hs
  by_cases h10 : p = 10
  · rw [if_pos h10] at hs
    cases hs
    subst h10
    obtain ⟨x, y, rfl⟩ := len2 hn
    cases len0 hk
    exact ⟨10, .within x y, rfl, rfl, ⟨S_within, rfl, ⟨x, y, rfl, rfl, rfl⟩⟩, fun f => rfl, (fun r hr => nomatch hr)⟩
  rw [if_neg h10] at hs
  by_cases h11 : p = 11
  · rw [if_pos h11] at hs
    cases hs
    subst h11
    obtain ⟨x, rfl⟩ := len1 hn
    cases len0 hk
    exact ⟨11, .hangs x, rfl, rfl, ⟨S_hangs, rfl, ⟨x, rfl, rfl, rfl⟩⟩, fun f => rfl, (fun r hr => nomatch hr)⟩
  rw [if_neg h11] at hs
  by_cases h12 : p = 12
  · rw [if_pos h12] at hs
    cases hs
    subst h12
    cases len0 hn
    obtain ⟨r, rfl⟩ := len1 hk
    exact ⟨12, .least r, rfl, rfl, ⟨S_least, rfl, ⟨r, rfl, rfl, rfl⟩⟩, fun f => rfl, (lists_short _ _ (by decide +kernel) (by show 1 ≤ (PyVbenae.bound 12).2.length; decide +kernel) hl)⟩
  rw [if_neg h12] at hs
  by_cases h13 : p = 13
  · rw [if_pos h13] at hs
    cases hs
    subst h13
    cases len0 hn
    obtain ⟨r, r2, rfl⟩ := len2 hk
    exact ⟨13, .cost r r2, rfl, rfl, ⟨S_cost, rfl, ⟨r, r2, rfl, rfl, rfl⟩⟩, fun f => rfl, (lists_short _ _ (by decide +kernel) (by show 2 ≤ (PyVbenae.bound 13).2.length; decide +kernel) hl)⟩
  rw [if_neg h13] at hs
  by_cases h14 : p = 14
  · rw [if_pos h14] at hs
    cases hs
    subst h14
    cases len0 hn
    obtain ⟨r, rfl⟩ := len1 hk
    exact ⟨14, .labels r, rfl, rfl, ⟨S_labels, rfl, ⟨r, rfl, rfl, rfl⟩⟩, fun f => rfl, (lists_short _ _ (by decide +kernel) (by show 1 ≤ (PyVbenae.bound 14).2.length; decide +kernel) hl)⟩
  rw [if_neg h14] at hs
  by_cases h15 : p = 15
  · rw [if_pos h15] at hs
    cases hs
    subst h15
    cases len0 hn
    obtain ⟨r, r2, rfl⟩ := len2 hk
    exact ⟨15, .accept r r2, rfl, rfl, ⟨S_accept, rfl, ⟨r, r2, rfl, rfl, rfl⟩⟩, fun f => rfl, (lists_short _ _ (by decide +kernel) (by show 2 ≤ (PyVbenae.bound 15).2.length; decide +kernel) hl)⟩
  rw [if_neg h15] at hs
  by_cases h16 : p = 16
  · rw [if_pos h16] at hs
    cases hs
    subst h16
    cases len0 hn
    obtain ⟨r, rfl⟩ := len1 hk
    exact ⟨16, .deep r, rfl, rfl, ⟨S_deep, rfl, ⟨r, rfl, rfl, rfl⟩⟩, fun f => rfl, (lists_short _ _ (by decide +kernel) (by show 1 ≤ (PyVbenae.bound 16).2.length; decide +kernel) hl)⟩
  rw [if_neg h16] at hs
  by_cases h17 : p = 17
  · rw [if_pos h17] at hs
    cases hs
    subst h17
    obtain ⟨x, rfl⟩ := len1 hn
    obtain ⟨r, rfl⟩ := len1 hk
    exact ⟨17, .card x r, rfl, rfl, ⟨S_card, rfl, ⟨x, r, rfl, rfl, rfl⟩⟩, fun f => rfl, (lists_short _ _ (by decide +kernel) (by show 1 ≤ (PyVbenae.bound 17).2.length; decide +kernel) hl)⟩
  rw [if_neg h17] at hs
  by_cases h18 : p = 18
  · rw [if_pos h18] at hs
    cases hs
    subst h18
    cases len0 hn
    obtain ⟨r, rfl⟩ := len1 hk
    exact ⟨18, .together r, rfl, rfl, ⟨S_together, rfl, ⟨r, rfl, rfl, rfl⟩⟩, fun f => rfl, (lists_short _ _ (by decide +kernel) (by show 1 ≤ (PyVbenae.bound 18).2.length; decide +kernel) hl)⟩
  rw [if_neg h18] at hs
  by_cases h19 : p = 19
  · rw [if_pos h19] at hs
    cases hs
    subst h19
    cases len0 hn
    obtain ⟨r, rfl⟩ := len1 hk
    exact ⟨19, .mean r, rfl, rfl, ⟨S_mean, rfl, ⟨r, rfl, rfl, rfl⟩⟩, fun f => rfl, (lists_short _ _ (by decide +kernel) (by show 1 ≤ (PyVbenae.bound 19).2.length; decide +kernel) hl)⟩
  rw [if_neg h19] at hs
  by_cases h20 : p = 20
  · rw [if_pos h20] at hs
    cases hs
    subst h20
    cases len0 hn
    obtain ⟨r, rfl⟩ := len1 hk
    exact ⟨20, .thumb r, rfl, rfl, ⟨S_thumb, rfl, ⟨r, rfl, rfl, rfl⟩⟩, fun f => rfl, (lists_short _ _ (by decide +kernel) (by show 1 ≤ (PyVbenae.bound 20).2.length; decide +kernel) hl)⟩
  rw [if_neg h20] at hs
  by_cases h21 : p = 21
  · rw [if_pos h21] at hs
    cases hs
    subst h21
    obtain ⟨x, rfl⟩ := len1 hn
    obtain ⟨r, rfl⟩ := len1 hk
    exact ⟨21, .cube x r, rfl, rfl, ⟨S_cube, rfl, ⟨x, r, rfl, rfl, rfl⟩⟩, fun f => rfl, (lists_short _ _ (by decide +kernel) (by show 1 ≤ (PyVbenae.bound 21).2.length; decide +kernel) hl)⟩
  rw [if_neg h21] at hs
  cases hs
/-! ### calls -/
theorem call_ok {l : List Int} {c : List (List Int)} {t : List Int} (h : PyFlat.call PyVbenae.shape l = some (c, t)) : ∃ p r n k xs, l = p :: r ∧ PyVbenae.shape p = some (n, k) ∧ n ≤ r.length ∧ PyFlat.rows k (r.drop n) = some (xs, t) ∧ c = (p :: r.take n) :: xs := by
  cases l with
  | nil => cases h
  | cons p r =>
    unfold PyFlat.call at h
    dsimp only at h
    cases hs : PyVbenae.shape p with
    | none => rw [hs] at h; cases h
    | some y =>
      obtain ⟨n, k⟩ := y
      rw [hs] at h
      dsimp only at h
      by_cases c : r.length < n
      · rw [if_pos c] at h; cases h
      rw [if_neg c] at h
      cases hr : PyFlat.rows k (r.drop n) with
      | none => rw [hr] at h; cases h
      | some z =>
        obtain ⟨xs, t'⟩ := z
        rw [hr] at h
        cases h
        exact ⟨p, r, n, k, xs, rfl, hs, by omega, hr, rfl⟩
theorem calls_cons {g : Nat} {p : Int} {r : List Int} {cs : List (List (List Int))} (h : PyFlat.calls PyVbenae.shape g (p :: r) = some cs) : ∃ g' c t cs', PyFlat.call PyVbenae.shape (p :: r) = some (c, t) ∧ PyFlat.calls PyVbenae.shape g' t = some cs' ∧ cs = c :: cs' := by
  cases g with
  | zero => cases h
  | succ g =>
    unfold PyFlat.calls at h
    cases hc : PyFlat.call PyVbenae.shape (p :: r) with
    | none => rw [hc] at h; cases h
    | some y =>
      obtain ⟨c, t⟩ := y
      rw [hc] at h
      dsimp only at h
      cases hg : PyFlat.calls PyVbenae.shape g t with
      | none => rw [hg] at h; cases h
      | some z =>
        rw [hg] at h
        cases h
        exact ⟨g, c, t, z, rfl, hg, rfl⟩
theorem calls_nil {g : Nat} {cs : List (List (List Int))} (h : PyFlat.calls PyVbenae.shape g [] = some cs) : cs = [] := by
  cases g with
  | zero => cases h; rfl
  | succ g => cases h; rfl
/-- what is still to be told -/
def due (f : File) (cs : List (List (List Int))) : List Int := PyFlat.told (PyFlat.played VbenaeNeutral.step f (cs.map PyVbenae.whole))
theorem due_nil (f : File) : due f [] = [] := rfl
theorem due_cons (f : File) (c : List (List Int)) (cs : List (List (List Int))) : due f (c :: cs) = ((VbenaeNeutral.step f (PyVbenae.whole c)).2.length : Int) :: (VbenaeNeutral.step f (PyVbenae.whole c)).2 ++ due (VbenaeNeutral.step f (PyVbenae.whole c)).1 cs := rfl
theorem asked_ok {l : List Int} (h : PyVbenae.answers_asked l = true) : ∃ raw, PyFlat.calls PyVbenae.shape l.length l = some raw ∧ PyInside.calls PyVbenae.bound raw = true ∧ PyVbenae.answers l = due Vbenae.start raw ∧ (PyVbenae.answers l).length ≤ 10000000 := by
  unfold PyVbenae.answers_asked at h
  cases hc : PyFlat.calls PyVbenae.shape l.length l with
  | none => rw [hc] at h; cases h
  | some raw =>
    rw [hc] at h
    dsimp only at h
    rw [Bool.and_eq_true, Bool.and_eq_true, Bool.and_eq_true, Bool.and_eq_true] at h
    obtain ⟨⟨⟨⟨h1, h2⟩, h3⟩, h4⟩, h5⟩ := h
    refine ⟨raw, rfl, h3, ?_, ?_⟩
    · unfold PyVbenae.answers PyVbenae.calls
      rw [hc] <;> rfl
    · exact of_decide_eq_true h5
end N
namespace N
open PySem PySem.Spec PyProof.Rows L2 NX
open Vbenae (File Line Ask Plan)
theorem SqL.fd {K : PySem.W.Frag} {H H' : Hp} (e : Fd H H') {a : Addr} {xs : List V} (h : SqL K H a xs) : SqL K H' a xs := by
  rcases h with (h | ⟨o, h⟩) | h
  · exact .inl (.inl (e.lst h))
  · exact .inl (.inr ⟨o, e _ _ (fun _ _ z => by cases z) (fun _ _ z => by cases z) h⟩)
  · exact .inr h
theorem upd_swap {H : Hp} {a b : Addr} {x y : HO} (h : a ≠ b) : upd (upd H a x) b y = upd (upd H b y) a x := by
  funext c
  by_cases c1 : c = a
  · subst c1
    rw [upd_ne h, upd_same, upd_same]
  · by_cases c2 : c = b
    · subst c2
      rw [upd_same, upd_ne c1, upd_same]
    · rw [upd_ne c2, upd_ne c1, upd_ne c1, upd_ne c2]
theorem ex_del {H H' : Hp} {ap : Addr} (e : Ex H H') (h : H ap = none) : Ex H (del H' ap) := fun b o hb => by
  rw [del_ne (ne_of_none hb h)]
  exact e b o hb
theorem cnt_le {i : Nat} {x : Nat × Nat} (h : countsL[i]? = some x) : x.1 ≤ 2 ∧ x.2 ≤ 2 := by
  have a : (countsL.all fun x => decide (x.1 ≤ 2 ∧ x.2 ≤ 2)) = true := by decide
  exact of_decide_eq_true (List.all_eq_true.mp a x (List.mem_of_getElem? h))
theorem sz7 {n : Nat} (h : n ≤ 10000000) : n ≤ sizeLine := Nat.le_trans h (by decide)
theorem sz7s {n : Nat} (h : n < 10000000) : n < sizeLine := Nat.lt_of_lt_of_le h (by decide)
section
variable {P : Program} {w : World} {K : PySem.W.Frag} {mg : Str → Option Value} {base : Heap}
theorem c_read_rows (T : Tx K mg) : Cal P w K mg base CX0 1 "read_rows" a_read_rows (spF (sp_read_rows K)) := (Raw.c_read_rows T).frame
def sp_answers (K : PySem.W.Frag) : Sp := fun vs H Q _ => ∃ (a : Addr) (l : List Int), vs = [.ref a] ∧ SqL K H a (iv l) ∧ l.length ≤ 16000 ∧ PyVbenae.answers_asked l = true ∧ ∀ H' p, H' p = some (.lst (iv (PyVbenae.answers l))) → Q (.ref p) H'
theorem sc_answers : FnScope ["calls", "desk", "answered", "place", "number", "first_row", "rows", "answer", "row"] ["calls"] (defScope s_answers) := C8.fnScope_by (by decide +kernel)
theorem ok_answers {fd : FuncData} (F : Fun K "answers" "answers" s_answers a_answers fd) (T : Tx K mg) : FnOk P w K mg base CX0 48 a_answers fd ["calls"] (sp_answers K) := by
  refine F.ok sc_answers (fun vs H Q E h => by obtain ⟨a, l, rfl, _⟩ := h; rfl) (fun cdv A outer s H vs Q E hr h => ⟨_, pss_cons (ps_set (i := 1) sc_answers.nd rfl (Or.inl rfl) (pe_k0 (c_Desk_init T) hr (by decide) rfl))
    (pss_cons (ps_set (i := 2) sc_answers.nd rfl (Or.inl rfl) (pe_lst pa_nil))
    (pss_cons (ps_set (i := 3) sc_answers.nd rfl (Or.inl rfl) pe_int)
    (pss_cons (ps_while PassesOwn.never (pt_cmpR op_lt (pv 3) (pe_callB call_len rfl T.f_len PySem.boot_len (pa_cons (pv 0) pa_nil)) (nomark _))
    (pss_cons (ps_set (i := 4) sc_answers.nd rfl (Or.inl rfl) (pe_ix ix_list (pv 0) (pv 3) (fun _ _ => rfl)))
    (pss_cons (ps_set (i := 5) sc_answers.nd rfl (Or.inl rfl) (pe_op op_add (pe_op op_add (pv 3) pe_int) (pe_f (c_number_count T) hr (by decide) rfl (pa_cons (pv 4) pa_nil))))
    (pss_cons (ps_set (i := 6) sc_answers.nd rfl (Or.inl rfl) (pe_f (c_read_rows T) hr (by decide) rfl (pa_cons (pv 0) (pa_cons (pv 5) (pa_cons (pe_f (c_row_count T) hr (by decide) rfl (pa_cons (pv 4) pa_nil)) pa_nil)))))
    (pss_cons (ps_set (i := 7) sc_answers.nd rfl (Or.inl rfl) (pe_f (c_answer_call T) hr (by decide) rfl (pa_cons (pv 1) (pa_cons (pv 4) (pa_cons (pe_slice sl_list (pv 0) (po_some (pe_op op_add (pv 3) pe_int)) (po_some (pv 5))) (pa_cons (pv 6) pa_nil))))))
    (pss_cons (ps_expr (pe_bm PySem.F.plainAttrs_list PySem.F.slot_list_append PySem.F.type_list_append mt_append (pv 2) (pa_cons (pe_callB call_len rfl T.f_len PySem.boot_len (pa_cons (pv 7) pa_nil)) pa_nil)))
    (pss_cons (ps_expr (pe_bm PySem.F.plainAttrs_list PySem.F.slot_list_extend PySem.F.type_list_extend mt_extend (pv 2) (pa_cons (pv 7) pa_nil)))
    (pss_one (ps_set (i := 3) sc_answers.nd rfl (Or.inl rfl) (pe_op op_add (pv 5) (pe_callB (cr_sum rfl) rfl T.f_sum (by decide +kernel) (by exact (pa_cons (by exact (pe_lc (own := [("row", 8)]) (g := gName 8) rfl sc_answers.nd (pi_list (pv 6)) (blkOk_by (own := [("row", 8)]) (N := ["calls", "desk", "answered", "place", "number", "first_row", "rows", "answer", "row"]) (sc := defScope s_answers) (by decide +kernel)) (fun _ _ _ _ _ => by exact (pg_name (i := 8) sc_answers.nd rfl (Or.inl rfl))) (fun _ _ _ _ _ => by exact pts_nil) (fun _ _ _ _ _ => by exact (pe_op op_add pe_int (pe_callB (call_lenK (K := K) rfl) rfl T.f_len PySem.boot_len (pa_cons (pv 8) pa_nil)))))) pa_nil)))))))))))))
    (pss_one (ps_ret (pv 2)))))), ?_⟩)
  obtain ⟨a, l, rfl, ha, hl, hask, q⟩ := h
  obtain ⟨raw, hcs, hbd, hans, hlen⟩ := asked_ok hask
  have hil : (iv l).length = l.length := List.length_map ..
  intro d dx hd hdx hne
  refine ⟨d, dx, rfl, upd_same, fun H1 af e1 hf => ⟨rfl, ?_⟩⟩
  have hd1 : H1 d = some (.ins a_Desk dx []) := e1 _ _ upd_same
  have fd0 : Fd H (upd H1 d (.ins a_Desk dx [("card_file", .ref af)])) := fdt (fdx (ext (made_ex hd hdx) e1)) (fdu hd1)
  have hD0 : DeskAt (upd H1 d (.ins a_Desk dx [("card_file", .ref af)])) d Vbenae.start := ⟨dx, af, upd_same, hf.fd (fdu hd1)⟩
  refine ⟨szl (Nat.zero_le _), fun ap hap => ?_⟩
  refine ⟨fun j σ H' => ∃ (G : Hp) (pl : Nat) (f : File) (out : List Int) (cs : List (List (List Int))) (g : Nat) (u4 u5 u6 u7 : Option V), σ = [some (.ref a), some (.ref d), some (.ref ap), some (.int (pl : Nat)), u4, u5, u6, u7, none] ∧ j = l.length - pl ∧ H' = upd G ap (.lst (iv out)) ∧ G ap = none ∧ SqL K G a (iv l) ∧ DeskAt G d f ∧ Wf f ∧ PyFlat.calls PyVbenae.shape g (l.drop pl) = some cs ∧ PyInside.calls PyVbenae.bound cs = true ∧ out ++ due f cs = PyVbenae.answers l ∧ pl ≤ l.length,
    ⟨_, _, 0, _, [], raw, l.length, _, _, _, _, rfl, rfl, rfl, hap, SqL.fd fd0 ha, hD0, wf_start, hcs, hbd, hans.symm, Nat.zero_le _⟩, ?_⟩
  rintro j σ H' ⟨G, pl, f, out, cs, g, u4, u5, u6, u7, rfl, rfl, rfl, hG, haG, hD, wf, hc, hb, hout, hple⟩
  have eG : Ex G (upd G ap (.lst (iv out))) := exn hG
  have haH : SqL K (upd G ap (.lst (iv out))) a (iv l) := exl eG haG
  refine ⟨_, rfl, _, rfl, _, _, rfl, .inl ⟨_, haH, rfl⟩, _, _, rfl, rfl, _, rfl, ?_⟩
  rw [hil]
  by_cases cc : pl < l.length
  case neg =>
    refine ifF (by omega) ⟨_, rfl, ?_⟩
    rw [List.drop_eq_nil_of_le (by omega)] at hc
    rw [calls_nil hc, due_nil, List.append_nil] at hout
    exact q _ ap (by rw [upd_same, hout])
  refine ifT (by omega) ⟨fun σ' H2 => _, fun _ _ z => z, ?_⟩
  have hdr := List.drop_eq_getElem_cons cc
  generalize hp : l[pl] = p at hdr
  rw [hdr] at hc
  obtain ⟨g', c, t, cs', hcall, hcs', rfl⟩ := calls_cons hc
  obtain ⟨p', r, n, k, xs, hpr, hsh, hnr, hrows, rfl⟩ := call_ok hcall
  cases hpr
  rw [show PyInside.calls PyVbenae.bound (((p :: (l.drop (pl + 1)).take n) :: xs) :: cs') = (PyInside.call PyVbenae.bound ((p :: (l.drop (pl + 1)).take n) :: xs) && PyInside.calls PyVbenae.bound cs') from List.all_cons, Bool.and_eq_true] at hb
  obtain ⟨r1, r2, r3⟩ := rows_len _ _ _ _ hrows
  rw [List.length_drop] at hnr
  rw [List.length_drop, List.length_drop] at r2
  obtain ⟨i, cl, O⟩ := one_call hsh (by rw [List.length_take, List.length_drop]; omega) r1 hb.1
  have hpi := O.pi
  have hat : (iv l)[pl]? = some (.int (i : Nat)) := by
    show (List.map _ l)[pl]? = _
    rw [List.getElem?_map, List.getElem?_eq_getElem cc, hp, hpi] <;> rfl
  refine ⟨_, rfl, _, rfl, _, _, _, _, rfl, rfl, haH, atI_nat hat, ?_⟩
  refine ⟨_, rfl, _, _, rfl, rfl, _, rfl, i, (n, k), rfl, O.cnt, _, _, rfl, rfl, ?_⟩
  have hfr : (pl : Int) + 1 + (n : Int) = ((pl + 1 + n : Nat) : Int) := by omega
  refine ⟨_, rfl, _, rfl, _, rfl, i, (n, k), rfl, O.cnt, G, ap, iv out, rfl, hG, a, l, pl + 1 + n, k, xs, t, (by
    show [V.ref a, V.int ((pl : Int) + 1 + (n : Int)), V.int (k : Int)] = _
    rw [hfr]), haG, (by rw [← List.drop_drop]; exact hrows), (cnt_le O.cnt).2, fun H1 rp e1 hro hn1 => ?_⟩
  have eH1 : Ex H1 (upd H1 ap (.lst (iv out))) := exn hn1
  have haH1 : SqL K (upd H1 ap (.lst (iv out))) a (iv l) := exl (ext e1 eH1) haG
  refine ⟨_, rfl, _, rfl, _, rfl, _, rfl, _, _, rfl, rfl, _, rfl, _, rfl, _, rfl, a, _, rfl, haH1, fun np hnp => ?_⟩
  have hnap : np ≠ ap := fun z => by rw [z, upd_same] at hnp; cases hnp
  have hnp1 : H1 np = none := by rw [upd_ne hnap] at hnp; exact hnp
  have hcut : cutV (iv l) (some ((pl : Int) + 1)) (some ((pl : Int) + 1 + (n : Int))) = iv ((l.drop (pl + 1)).take n) := by
    rw [hfr, show (pl : Int) + 1 = ((pl + 1 : Nat) : Int) by omega, cut_mid (by omega) (by omega), Nat.add_sub_cancel_left, iv_drop, iv_take]
  have e2 : Ex H1 (upd H1 np (.lst (cutV (iv l) (some ((pl : Int) + 1)) (some ((pl : Int) + 1 + (n : Int)))))) := exn hnp1
  have hdue : out ++ (((stepC f cl).2.length : Int) :: (stepC f cl).2 ++ due (stepC f cl).1 cs') = PyVbenae.answers l := by
    rw [← hout, due_cons, O.dec f]
  have hle : out.length + (1 + (stepC f cl).2.length + (due (stepC f cl).1 cs').length) ≤ 10000000 := by
    rw [← hdue, List.length_append, List.length_append, List.length_cons] at hlen
    omega
  refine ⟨_, rfl, upd H1 np (.lst (cutV (iv l) (some ((pl : Int) + 1)) (some ((pl : Int) + 1 + (n : Int))))), ap, iv out, upd_swap hnap.symm, (by rw [upd_ne hnap.symm]; exact hn1), d, np, rp, i, f, _, xs, cl, rfl, O.shp, ⟨(hD.ex e1).ex e2, wf, (by rw [upd_same, hcut]), hro.fd (fdx e2), O.short⟩, fun H2 pa f2 hd2 wf2 hpa hn2 => ?_⟩
  have hro2 : RowsAt H2 rp xs := (hro.fd (fdx e2)).fd f2
  have haH2 : SqL K H2 a (iv l) := SqL.fd f2 (exl (ext e1 e2) haG)
  have hpn : pa ≠ ap := ne_of_none hpa hn2
  have hol : (iv out).length = out.length := List.length_map ..
  have hrl : (iv (stepC f cl).2).length = (stepC f cl).2.length := List.length_map ..
  refine ⟨_, rfl, .inl ⟨rfl, _, SqL.of upd_same⟩, _, rfl, _, _, rfl, .inl ⟨_, SqL.of ((upd_ne hpn).trans hpa), rfl⟩, ap, _, _, rfl, rfl, upd_same, sz7s (by rw [hol]; omega), ?_⟩
  refine ⟨_, rfl, .inl ⟨rfl, _, SqL.of upd_same⟩, _, rfl, ap, pa, _, _, rfl, rfl, upd_same, (upd_ne hpn).trans ((upd_ne hpn).trans hpa), sz7 (by rw [List.length_append, hol, hrl]; show out.length + 1 + _ ≤ _; omega), ?_⟩
  rw [upd_upd, upd_upd]
  have e3 : Ex H2 (upd H2 ap (.lst ((iv out ++ [V.int ((iv (stepC f cl).2).length : Nat)]) ++ iv (stepC f cl).2))) := exn hn2
  obtain ⟨zs, z1, z2⟩ := hro2
  have hzl := z2.len
  refine ⟨_, rfl, _, rfl, rp, rfl, ⟨_, SqL.of (e3 _ _ z1)⟩, fun LD hLD => ?_⟩
  refine lc_map (walk_list (K := K) (a := rp) (xs := zs)) (fun i => xs[i]?.elim .non fun r => .int (1 + (r.length : Int))) (by have := (cnt_le O.cnt).2; dsimp only at this; omega) hLD (fun H3 e4 => SqL.of (e4 _ _ (e3 _ _ z1))) (fun i u H3 H' C hi e4 y hC => ?_) (fun H3 e4 h3' => ?_)
  · obtain ⟨rfl, hx⟩ := y
    obtain ⟨r, hr2, b, rfl, hb2⟩ := z2.get' hx
    have hC' := hC _ exr
    rw [hr2] at hC'
    have hbl : (iv r).length = r.length := List.length_map ..
    refine ⟨rfl, _, rfl, _, _, rfl, .inl ⟨_, SqL.of (e4 _ _ (e3 _ _ hb2)), rfl⟩, _, _, rfl, rfl, ?_⟩
    rw [hbl]
    exact hC'
  · rw [← hzl, range_map] at h3'
    have hsum : xs.map (fun r => V.int (1 + (r.length : Int))) = ((xs.map fun r => 1 + r.length).map fun (n : Nat) => (n : Int)).map V.int := by
      rw [List.map_map, List.map_map]
      apply List.map_congr_left
      intro r _
      exact congrArg V.int (by show 1 + (r.length : Int) = ((1 + r.length : Nat) : Int); omega)
    rw [hsum] at h3'
    refine ⟨_, _, rfl, SqL.of h3', _, _, rfl, rfl, ?_⟩
    have hpl : (pl : Int) + 1 + (n : Int) + ((xs.map fun r => 1 + r.length).foldl (fun a b => a + b) 0 : Nat) = ((pl + 1 + n + (xs.map fun r => 1 + r.length).sum : Nat) : Int) := by
      rw [foldl_add, Nat.zero_add]
      omega
    have hap3 := e4 _ _ (upd_same (H := H2) (a := ap) (o := .lst ((iv out ++ [V.int ((iv (stepC f cl).2).length : Nat)]) ++ iv (stepC f cl).2)))
    have e5 : Ex H2 (del H3 ap) := ex_del (ext e3 e4) hn2
    refine ⟨l.length - (pl + 1 + n + (xs.map fun r => 1 + r.length).sum), by omega, del H3 ap, pl + 1 + n + (xs.map fun r => 1 + r.length).sum, (stepC f cl).1, out ++ (((stepC f cl).2.length : Int) :: (stepC f cl).2), cs', g', some (.int (i : Nat)), some (.int ((pl : Int) + 1 + (n : Int))), some (.ref rp), some (.ref pa), ?_, rfl, ?_, del_same, exl e5 haH2, hd2.ex e5, wf2, ?_, hb.2, ?_, ?_⟩
    · show [some (V.ref a), some (V.ref d), some (V.ref ap), some (V.int ((pl : Int) + 1 + (n : Int) + ((xs.map fun r => 1 + r.length).map fun (n : Nat) => (n : Int)).sum)), some (V.int (i : Nat)), some (V.int ((pl : Int) + 1 + (n : Int))), some (V.ref rp), some (V.ref pa), none] = _
      rw [sum_ints, hpl]
    · have ho : iv out ++ [V.int ((iv (stepC f cl).2).length : Nat)] ++ iv (stepC f cl).2 = iv (out ++ (((stepC f cl).2.length : Int) :: (stepC f cl).2)) := by
        rw [hrl, iv_app, List.append_assoc] <;> rfl
      rw [ho] at hap3
      exact (upd_del hap3).symm
    · rw [r3, List.drop_drop, List.drop_drop, ← Nat.add_assoc] at hcs'
      exact hcs'
    · rw [← hdue, List.append_assoc] <;> rfl
    · omega
end
end N
namespace N
open PySem PySem.Spec PyProof.Rows L2
open PySem.W (Codec WData)
/-! ### the end -/
/-- as the layer's walk over a specification, with a written part that the head gives -/
theorem walk_own {r : PySem.W.OpenSpec} {lvl : Nat} {vw : Program} {ls : List Str} {XQ : (Str → Option Value) → Heap → Prop} {YQ : World → Heap → Prop} {df : DefRec} {ct : CXT} {pr : List Str}
    (well : r.wellSaid = true) (nodfl : df.params.defaults = []) (many : r.args.length = pr.length) (room : Room lvl callerA)
    (give : ∀ (w : World) (mg : Str → Option Value) (fa : Addr) (h : Heap), YQ w h → h.Ns mainGlobals mg → mg df.name = some (.ref fa) → ∃ (K : PySem.W.Frag) (fd : FuncData) (sp : Sp), K.In h ∧
      (∀ (s : Shared) (us : List Value), us.length = pr.length → BindsTo s fd ⟨us, []⟩ (pr.zip us)) ∧
      (∀ (H : Hp) (xs : List V) (a : Codec.denoteAll r.args), Codec.withinAll r.args a = true → Codec.app r.args r.asked a = true → DwAll K H xs (Codec.encAll r.args a) → sp xs H (fun v H' => Dw K H' v (r.ret.enc (Codec.app r.args r.f a))) fun _ _ _ => False) ∧
      ∀ base : Heap, K.In base → base.Ns mainGlobals mg → FnOk r.prog w K mg base ct lvl fa fd pr sp)
    (noX : ∀ (H : Hp) (s : Shared) (e : Value) (s' : Shared), ct [] H s (fun _ _ _ => False) e s' → False) : PySem.W.WalkOS vw ls XQ YQ r df [] (fun f vs => PySem.call f vs) := by
  intro w sa sb mg mb G Y fa o pm cd doc dV kV ho hd hcd hD hmg hg args vals ra hpre hlay hrd hwl hlo
  obtain ⟨a, p1, p2⟩ := PySem.W.os_pre_some hpre
  obtain ⟨p3, hwi⟩ := Codec.encAll_of_decAll r.args args a p1
  subst p3
  obtain ⟨K, fd, sp, KX, hb, hsp, hF⟩ := give w mg fa _ Y G.T.g hmg
  have run := spec_call (R := []) (cl := classAt sa.heap) (d0 := r.ret.enc (Codec.app r.args r.f a)) KX G.T.g G.T.b G.T.builtins G.T.nolimit hg hwl (pl_encAll _ _) (layable_weight hlay) room hF hb (by rw [encAll_len]; exact many) (fun H xs _ hS => hsp H xs a hwi p2 hS) (fun H e s' => noX H sb e s')
  refine PySem.W.enter_call (codeAny_mono run fun res s' hq => ?_)
  obtain ⟨u, ua, rfl, q1, q2, q3, q4⟩ := hq
  refine ⟨.inl ⟨u, _, ua, rfl, fun _ => rfl, q1, ?_, fun z => ?_⟩, q2, q3, q4⟩
  · exact (PySem.W.OpenSpec.post_iff well hwi _ _).mpr rfl
  · exact Bool.noConfusion (show false = true from z)
theorem answers_binds {K : PySem.W.Frag} {fd : FuncData} (F : Fun K "answers" "answers" s_answers a_answers fd) (s : Shared) (us : List Value) (hl : us.length = 1) : BindsTo s fd ⟨us, []⟩ ((["calls"] : List Str).zip us) := by
  obtain ⟨oc, od, kV, doc, pm, an, cdv, ct, osl, rfl, lk, hcd⟩ := F.ex
  have b : Binds ([] : PySem.W.Frag) (PySem.W.fnOf "answers" "answers" (defArgs s_answers) (defBody s_answers) (defScope s_answers) .none kV doc pm an cdv ct) ["calls"] [] := Binds.all fun us hl => match us, hl with
    | [_], _ => rfl
  have z := b s us (fun _ _ e => nomatch e) (by rw [List.append_nil]; exact hl)
  rw [List.append_nil] at z
  exact z
def hkN : PySem.W.Hook where
  α := Bool × Bool × Bool × Bool × List He.FnV
  obs := fun s => (partA (KG s.heap.get?), partB (KG s.heap.get?), partC (KG s.heap.get?), partD (KG s.heap.get?), fnsA (KG s.heap.get?))
  val := fun _ => (true, true, true, true, dfs.map DefA.val)
  says := fun _ h => ∃ K : PySem.W.Frag, K.In h ∧ partA K = true ∧ partB K = true ∧ partC K = true ∧ partD K = true ∧ fnsA K = dfs.map DefA.val
  of := fun _ s e => by
    simp only [Prod.mk.injEq] at e
    exact ⟨KG s.heap.get?, He.frG_in, e⟩
  keeps := fun _ _ _ ⟨K, hK, c⟩ k => ⟨K, PySem.W.Frag.In.keeps hK k, c⟩
noncomputable def obN (s : PySem.W.SharedT) : Bool × Bool × Bool × Bool × List He.FnV := (fA s, fB s, fC s, fD s, fF s)
theorem obN_eq (s : PySem.W.SharedT) : obN s = hkN.obs s.abs := by
  have e : HandSHeadRun.getT s = s.abs.heap.get? := funext (HandSHeadRun.getT_eq s)
  unfold obN fA fB fC fD fF
  rw [e] <;> rfl
theorem map_l {α β γ : Type} {o : Option α} {f : α → β} {g : α → γ} {b : β} {c : γ} (h : o.map (fun s => (f s, g s)) = some (b, c)) : o.map f = some b := by
  obtain ⟨a, rfl, h⟩ := Option.map_eq_some_iff.mp h
  cases h
  rfl
theorem map_r {α β γ : Type} {o : Option α} {f : α → β} {g : α → γ} {b : β} {c : γ} (h : o.map (fun s => (f s, g s)) = some (b, c)) : o.map g = some c := by
  obtain ⟨a, rfl, h⟩ := Option.map_eq_some_iff.mp h
  cases h
  rfl
theorem run_wb {w : World} (hL : ∀ os, (endR w os).map (fun s => (fL w s, fS s)) = some (true, PySem.W.openGood qw names)) (hX : ∀ os, (endR w os).map obN = some (true, true, true, true, dfs.map DefA.val)) : HandSHeadRun.RunEqS RR qw hkN obN 16000 names w := by
  intro os
  have h1 := hL os
  have h2 := hX os
  unfold endR at h1 h2
  have h3 := map2 (map_l h1) (map2 (map_r h1) h2)
  unfold fL fS at h3
  exact h3
theorem walkN : PySem.W.WalkOS qw names (PySem.W.XL qw []) hkN.says RR (HandSHeadRun.topDef RR.prog 147) [] fun f vs => PySem.call f vs := by
  refine walk_own (lvl := 48) (ct := CX0) (pr := ["calls"]) wellN (by kernel_rfl) rfl ⟨rfl, by decide, by decide⟩ ?_ (fun _ _ _ _ z => z)
  intro w mg fa h Y G hmg0
  obtain ⟨K, X, pA, pB, pC, pD, pF⟩ := Y
  have T := tx_of X G pA pB pC pD pF
  have hmg : mg ("answers" : Str) = some (.ref fa) := by
    have e : (HandSHeadRun.topDef RR.prog 147).name = ("answers" : Str) := by kernel_rfl
    rw [← e]
    exact hmg0
  have e := hmg.symm.trans T.g_answers
  cases e
  obtain ⟨fd, F⟩ := T.d_answers
  refine ⟨K, fd, sp_answers K, X, fun s us hl => answers_binds F s us hl, fun H xs a hwi hask hS => ?_, fun base _ _ => ok_answers F T⟩
  cases hS with
  | cons h1 h2 =>
    cases h2
    cases h1 with
    | lst hs ha =>
      have e := ints_dw a.1 _ ha
      subst e
      have hq : ((Codec.inLen 0 16000 a.1 && a.1.all (Codec.inInt (Int.negSucc 9223372036854775807) (Int.ofNat 9223372036854775807))) && true) = true := hwi
      rw [Bool.and_eq_true, Bool.and_eq_true] at hq
      exact ⟨_, a.1, rfl, hs, (Codec.inNat_iff.mp hq.1.1).2, hask, fun H' p hp => .lst (SqL.of hp) (dw_ints _)⟩
end N
namespace N
open PySem PySem.W PySem.Calls PyProof.Rows
theorem run5 {w : World} (hX : ∀ os, (endR w os).map (fun s => (fA s, fB s, fC s)) = some (true, true, true)) (hY : ∀ os, (endR w os).map (fun s => (fD s, fF s)) = some (true, dfs.map DefA.val)) : ∀ os, (endR w os).map obN = some (true, true, true, true, dfs.map DefA.val) := fun os => by
  have h1 := hX os
  have h2 := hY os
  generalize endR w os = o at h1 h2 ⊢
  exact map2 (map_l h1) (map2 (map_l (map_r h1)) (map2 (map_r (map_r h1)) h2))
theorem runN (w : World) : HandSHeadRun.RunEqS RR qw hkN obN 16000 names w :=
  byRow2 "special-get-raises" (P := fun w => HandSHeadRun.RunEqS RR qw hkN obN 16000 names w) (fun w => run_wb (rLfalse w) (run5 (rXfalse w) (rYfalse w))) (fun w => run_wb (rLtrue w) (run5 (rXtrue w) (rYtrue w))) w
end N
open PySem PySem.W PySem.Calls PyProof.Rows
theorem PySem.Challenge.cw_notchedcards_s01_answers_holds : PySem.Challenge.rw_notchedcards_s01_answers.Holds := by
  refine HandSHeadRun.head_spec (r := N.RR) (q := N.qw) (H := N.hkN) (ob := N.obN) (M := 16000) (loose := N.names) (d := HandSHeadRun.topDef N.RR.prog 147) (kwd := []) N.obN_eq (by kernel_rfl) (fun s => by kernel_rfl) N.runN (by kernel_rfl) (by kernel_rfl) (by kernel_rfl) os_shapes N.wellN (by decide +kernel) ⟨rfl, rfl, rfl, rfl, rfl, by decide +kernel⟩ ?hw N.walkN
  case hw => exact ⟨[.list [.int 0]], by decide +kernel, by decide +kernel⟩
#print axioms PySem.Challenge.cw_notchedcards_s01_answers_holds
