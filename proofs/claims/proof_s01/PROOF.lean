import PyProof.Rows.All
import Wide.All
import OpenK.AllK
import Wide.FinOn
import KE.KStateDown
import Lean
import HandS.ForSpec
import HandS.ForMost
import HandS.More
import HandS.Codes
import HandS.Flow
import HandS.Defaults
import HandS.TryMany
import HandS.Walk
import HandS.HeadEnd
import HandS.HeadHook1
import HandS.HeadHook2
import HandS.HeadHook4
import HandS.Lambda
import HandS.ExcInit
import HandS.Conv
import HandS.SortKw
import HandS.Sort
import KE.SortKeyHeap
import KE.DataMinKey
import HandS.EndTab
import HandS.NestedK
import HandS.Head0
import HandS.Head1
import HandS.Head2
import HandS.Head3
import HandS.Head4
import VbtoadSpec
import PyVbtoad
import HandS.SetFor
import HandS.Strs
import PySem.Challenge.RW_surejourney_s01_answers
set_option Elab.async false
set_option linter.all false
section
set_option Elab.async false
set_option linter.all false
set_option maxRecDepth 100000
set_option maxHeartbeats 4000000
namespace SJ
open PySem PySem.Spec PyProof.Rows L2
def top (i : Nat) : Stmt := PySem.Challenge.pw_surejourney_s01_answers.main.body.getD i (.Pass ⟨0, 0, 0, 0⟩)
abbrev s_TextFault_init : Stmt := inClass (top 6) 0
def d_TextFault_init : He.DefD := ⟨("TextFault", some "__init__"), "__init__", "TextFault.__init__", defArgs s_TextFault_init, defBody s_TextFault_init, defScope s_TextFault_init, [], []⟩
abbrev s_Place_init : Stmt := inClass (top 9) 0
def d_Place_init : He.DefD := ⟨("Place", some "__init__"), "__init__", "Place.__init__", defArgs s_Place_init, defBody s_Place_init, defScope s_Place_init, [], []⟩
abbrev s_Car_init : Stmt := inClass (top 10) 0
def d_Car_init : He.DefD := ⟨("Car", some "__init__"), "__init__", "Car.__init__", defArgs s_Car_init, defBody s_Car_init, defScope s_Car_init, [], []⟩
abbrev s_Departure_init : Stmt := inClass (top 11) 0
def d_Departure_init : He.DefD := ⟨("Departure", some "__init__"), "__init__", "Departure.__init__", defArgs s_Departure_init, defBody s_Departure_init, defScope s_Departure_init, [], []⟩
abbrev s_Net_init : Stmt := inClass (top 12) 0
def d_Net_init : He.DefD := ⟨("Net", some "__init__"), "__init__", "Net.__init__", defArgs s_Net_init, defBody s_Net_init, defScope s_Net_init, [], []⟩
abbrev s_copy_of_net : Stmt := top 13
def d_copy_of_net : He.DefD := ⟨("copy_of_net", none), "copy_of_net", "copy_of_net", defArgs s_copy_of_net, defBody s_copy_of_net, defScope s_copy_of_net, [], []⟩
abbrev s_number_of_name : Stmt := top 14
def d_number_of_name : He.DefD := ⟨("number_of_name", none), "number_of_name", "number_of_name", defArgs s_number_of_name, defBody s_number_of_name, defScope s_number_of_name, [], []⟩
abbrev s_number_of_departure : Stmt := top 15
def d_number_of_departure : He.DefD := ⟨("number_of_departure", none), "number_of_departure", "number_of_departure", defArgs s_number_of_departure, defBody s_number_of_departure, defScope s_number_of_departure, [], []⟩
abbrev s_kind_and_number : Stmt := top 16
def d_kind_and_number : He.DefD := ⟨("kind_and_number", none), "kind_and_number", "kind_and_number", defArgs s_kind_and_number, defBody s_kind_and_number, defScope s_kind_and_number, [], []⟩
abbrev s_net_without : Stmt := top 17
def d_net_without : He.DefD := ⟨("net_without", none), "net_without", "net_without", defArgs s_net_without, defBody s_net_without, defScope s_net_without, [], []⟩
abbrev s_shifted_departure : Stmt := top 18
def d_shifted_departure : He.DefD := ⟨("shifted_departure", none), "shifted_departure", "shifted_departure", defArgs s_shifted_departure, defBody s_shifted_departure, defScope s_shifted_departure, [], []⟩
abbrev s_net_with_shift : Stmt := top 19
def d_net_with_shift : He.DefD := ⟨("net_with_shift", none), "net_with_shift", "net_with_shift", defArgs s_net_with_shift, defBody s_net_with_shift, defScope s_net_with_shift, [], []⟩
abbrev s_Word_init : Stmt := inClass (top 30) 0
def d_Word_init : He.DefD := ⟨("Word", some "__init__"), "__init__", "Word.__init__", defArgs s_Word_init, defBody s_Word_init, defScope s_Word_init, [], []⟩
abbrev s_Line_init : Stmt := inClass (top 31) 0
def d_Line_init : He.DefD := ⟨("Line", some "__init__"), "__init__", "Line.__init__", defArgs s_Line_init, defBody s_Line_init, defScope s_Line_init, [], []⟩
abbrev s_Line_has_more : Stmt := inClass (top 31) 1
def d_Line_has_more : He.DefD := ⟨("Line", some "has_more"), "has_more", "Line.has_more", defArgs s_Line_has_more, defBody s_Line_has_more, defScope s_Line_has_more, [], []⟩
abbrev s_Line_take : Stmt := inClass (top 31) 2
def d_Line_take : He.DefD := ⟨("Line", some "take"), "take", "Line.take", defArgs s_Line_take, defBody s_Line_take, defScope s_Line_take, [], []⟩
abbrev s_Line_close : Stmt := inClass (top 31) 3
def d_Line_close : He.DefD := ⟨("Line", some "close"), "close", "Line.close", defArgs s_Line_close, defBody s_Line_close, defScope s_Line_close, [], []⟩
abbrev s_words_between : Stmt := top 32
def d_words_between : He.DefD := ⟨("words_between", none), "words_between", "words_between", defArgs s_words_between, defBody s_words_between, defScope s_words_between, [], []⟩
abbrev s_lines_of : Stmt := top 33
def d_lines_of : He.DefD := ⟨("lines_of", none), "lines_of", "lines_of", defArgs s_lines_of, defBody s_lines_of, defScope s_lines_of, [], []⟩
abbrev s_bytes_of : Stmt := top 34
def d_bytes_of : He.DefD := ⟨("bytes_of", none), "bytes_of", "bytes_of", defArgs s_bytes_of, defBody s_bytes_of, defScope s_bytes_of, [], []⟩
abbrev s_is_letter : Stmt := top 35
def d_is_letter : He.DefD := ⟨("is_letter", none), "is_letter", "is_letter", defArgs s_is_letter, defBody s_is_letter, defScope s_is_letter, [], []⟩
abbrev s_is_digit : Stmt := top 36
def d_is_digit : He.DefD := ⟨("is_digit", none), "is_digit", "is_digit", defArgs s_is_digit, defBody s_is_digit, defScope s_is_digit, [], []⟩
abbrev s_is_name : Stmt := top 37
def d_is_name : He.DefD := ⟨("is_name", none), "is_name", "is_name", defArgs s_is_name, defBody s_is_name, defScope s_is_name, [], []⟩
abbrev s_is_number : Stmt := top 38
def d_is_number : He.DefD := ⟨("is_number", none), "is_number", "is_number", defArgs s_is_number, defBody s_is_number, defScope s_is_number, [], []⟩
abbrev s_number_told : Stmt := top 39
def d_number_told : He.DefD := ⟨("number_told", none), "number_told", "number_told", defArgs s_number_told, defBody s_number_told, defScope s_number_told, [], []⟩
abbrev s_take_name : Stmt := top 40
def d_take_name : He.DefD := ⟨("take_name", none), "take_name", "take_name", defArgs s_take_name, defBody s_take_name, defScope s_take_name, [], []⟩
abbrev s_take_number : Stmt := top 41
def d_take_number : He.DefD := ⟨("take_number", none), "take_number", "take_number", defArgs s_take_number, defBody s_take_number, defScope s_take_number, [], []⟩
abbrev s_need_between : Stmt := top 50
def d_need_between : He.DefD := ⟨("need_between", none), "need_between", "need_between", defArgs s_need_between, defBody s_need_between, defScope s_need_between, [], []⟩
abbrev s_need_row : Stmt := top 51
def d_need_row : He.DefD := ⟨("need_row", none), "need_row", "need_row", defArgs s_need_row, defBody s_need_row, defScope s_need_row, [], []⟩
abbrev s_need_text : Stmt := top 52
def d_need_text : He.DefD := ⟨("need_text", none), "need_text", "need_text", defArgs s_need_text, defBody s_need_text, defScope s_need_text, [], []⟩
abbrev s_need_name : Stmt := top 53
def d_need_name : He.DefD := ⟨("need_name", none), "need_name", "need_name", defArgs s_need_name, defBody s_need_name, defScope s_need_name, [], []⟩
abbrev s_need_played : Stmt := top 54
def d_need_played : He.DefD := ⟨("need_played", none), "need_played", "need_played", defArgs s_need_played, defBody s_need_played, defScope s_need_played, [], []⟩
abbrev s_need_shift : Stmt := top 55
def d_need_shift : He.DefD := ⟨("need_shift", none), "need_shift", "need_shift", defArgs s_need_shift, defBody s_need_shift, defScope s_need_shift, [], []⟩
abbrev s_need_k : Stmt := top 56
def d_need_k : He.DefD := ⟨("need_k", none), "need_k", "need_k", defArgs s_need_k, defBody s_need_k, defScope s_need_k, [], []⟩
abbrev s_need_minute : Stmt := top 57
def d_need_minute : He.DefD := ⟨("need_minute", none), "need_minute", "need_minute", defArgs s_need_minute, defBody s_need_minute, defScope s_need_minute, [], []⟩
abbrev s_need_places : Stmt := top 58
def d_need_places : He.DefD := ⟨("need_places", none), "need_places", "need_places", defArgs s_need_places, defBody s_need_places, defScope s_need_places, [], []⟩
abbrev s_Ways_init : Stmt := inClass (top 61) 0
def d_Ways_init : He.DefD := ⟨("Ways", some "__init__"), "__init__", "Ways.__init__", defArgs s_Ways_init, defBody s_Ways_init, defScope s_Ways_init, [], []⟩
abbrev s_single_cars_table : Stmt := top 62
def d_single_cars_table : He.DefD := ⟨("single_cars_table", none), "single_cars_table", "single_cars_table", defArgs s_single_cars_table, defBody s_single_cars_table, defScope s_single_cars_table, [], []⟩
abbrev s_coming_table : Stmt := top 63
def d_coming_table : He.DefD := ⟨("coming_table", none), "coming_table", "coming_table", defArgs s_coming_table, defBody s_coming_table, defScope s_coming_table, [], []⟩
abbrev s_shorter_row : Stmt := top 64
def d_shorter_row : He.DefD := ⟨("shorter_row", none), "shorter_row", "shorter_row", defArgs s_shorter_row, defBody s_shorter_row, defScope s_shorter_row, [], []⟩
abbrev s_ready_table : Stmt := top 65
def d_ready_table : He.DefD := ⟨("ready_table", none), "ready_table", "ready_table", defArgs s_ready_table, defBody s_ready_table, defScope s_ready_table, [], []⟩
abbrev s_Outlook_init : Stmt := inClass (top 70) 0
def d_Outlook_init : He.DefD := ⟨("Outlook", some "__init__"), "__init__", "Outlook.__init__", defArgs s_Outlook_init, defBody s_Outlook_init, defScope s_Outlook_init, [], []⟩
abbrev s_Choice_init : Stmt := inClass (top 71) 0
def d_Choice_init : He.DefD := ⟨("Choice", some "__init__"), "__init__", "Choice.__init__", defArgs s_Choice_init, defBody s_Choice_init, defScope s_Choice_init, [], []⟩
abbrev s_add_worths : Stmt := top 72
def d_add_worths : He.DefD := ⟨("add_worths", none), "add_worths", "add_worths", defArgs s_add_worths, defBody s_add_worths, defScope s_add_worths, [], []⟩
abbrev s_latest_first : Stmt := top 73
def d_latest_first : He.DefD := ⟨("latest_first", none), "latest_first", "latest_first", defArgs s_latest_first, defBody s_latest_first, defScope s_latest_first, [], []⟩
abbrev s_worth_of : Stmt := top 74
def d_worth_of : He.DefD := ⟨("worth_of", none), "worth_of", "worth_of", defArgs s_worth_of, defBody s_worth_of, defScope s_worth_of, [], []⟩
abbrev s_sure_if_it_goes : Stmt := top 75
def d_sure_if_it_goes : He.DefD := ⟨("sure_if_it_goes", none), "sure_if_it_goes", "sure_if_it_goes", defArgs s_sure_if_it_goes, defBody s_sure_if_it_goes, defScope s_sure_if_it_goes, [], []⟩
abbrev s_sure_if_cancelled : Stmt := top 76
def d_sure_if_cancelled : He.DefD := ⟨("sure_if_cancelled", none), "sure_if_cancelled", "sure_if_cancelled", defArgs s_sure_if_cancelled, defBody s_sure_if_cancelled, defScope s_sure_if_cancelled, [], []⟩
abbrev s_minute_there : Stmt := top 77
def d_minute_there : He.DefD := ⟨("minute_there", none), "minute_there", "minute_there", defArgs s_minute_there, defBody s_minute_there, defScope s_minute_there, [], []⟩
abbrev s_sure_from : Stmt := top 78
def d_sure_from : He.DefD := ⟨("sure_from", none), "sure_from", "sure_from", defArgs s_sure_from, defBody s_sure_from, defScope s_sure_from, [], []⟩
abbrev s_by_cars_alone : Stmt := top 79
def d_by_cars_alone : He.DefD := ⟨("by_cars_alone", none), "by_cars_alone", "by_cars_alone", defArgs s_by_cars_alone, defBody s_by_cars_alone, defScope s_by_cars_alone, [], []⟩
abbrev s_departures_in_time : Stmt := top 80
def d_departures_in_time : He.DefD := ⟨("departures_in_time", none), "departures_in_time", "departures_in_time", defArgs s_departures_in_time, defBody s_departures_in_time, defScope s_departures_in_time, [], []⟩
abbrev s_what_to_do : Stmt := top 81
def d_what_to_do : He.DefD := ⟨("what_to_do", none), "what_to_do", "what_to_do", defArgs s_what_to_do, defBody s_what_to_do, defScope s_what_to_do, [], []⟩
abbrev s_departure_to_take : Stmt := top 82
def d_departure_to_take : He.DefD := ⟨("departure_to_take", none), "departure_to_take", "departure_to_take", defArgs s_departure_to_take, defBody s_departure_to_take, defScope s_departure_to_take, [], []⟩
abbrev s_car_to_goal : Stmt := top 83
def d_car_to_goal : He.DefD := ⟨("car_to_goal", none), "car_to_goal", "car_to_goal", defArgs s_car_to_goal, defBody s_car_to_goal, defScope s_car_to_goal, [], []⟩
abbrev s_car_to_be_ready : Stmt := top 84
def d_car_to_be_ready : He.DefD := ⟨("car_to_be_ready", none), "car_to_be_ready", "car_to_be_ready", defArgs s_car_to_be_ready, defBody s_car_to_be_ready, defScope s_car_to_be_ready, [], []⟩
abbrev s_Traveller_init : Stmt := inClass (top 90) 0
def d_Traveller_init : He.DefD := ⟨("Traveller", some "__init__"), "__init__", "Traveller.__init__", defArgs s_Traveller_init, defBody s_Traveller_init, defScope s_Traveller_init, [], []⟩
abbrev s_play_journey : Stmt := top 91
def d_play_journey : He.DefD := ⟨("play_journey", none), "play_journey", "play_journey", defArgs s_play_journey, defBody s_play_journey, defScope s_play_journey, [], []⟩
abbrev s_play_worst_case : Stmt := top 92
def d_play_worst_case : He.DefD := ⟨("play_worst_case", none), "play_worst_case", "play_worst_case", defArgs s_play_worst_case, defBody s_play_worst_case, defScope s_play_worst_case, [], []⟩
abbrev s_is_worse_cancelled : Stmt := top 93
def d_is_worse_cancelled : He.DefD := ⟨("is_worse_cancelled", none), "is_worse_cancelled", "is_worse_cancelled", defArgs s_is_worse_cancelled, defBody s_is_worse_cancelled, defScope s_is_worse_cancelled, [], []⟩
abbrev s_goes_on : Stmt := top 94
def d_goes_on : He.DefD := ⟨("goes_on", none), "goes_on", "goes_on", defArgs s_goes_on, defBody s_goes_on, defScope s_goes_on, [], []⟩
abbrev s_choice_of : Stmt := top 95
def d_choice_of : He.DefD := ⟨("choice_of", none), "choice_of", "choice_of", defArgs s_choice_of, defBody s_choice_of, defScope s_choice_of, [], []⟩
abbrev s_take_step : Stmt := top 96
def d_take_step : He.DefD := ⟨("take_step", none), "take_step", "take_step", defArgs s_take_step, defBody s_take_step, defScope s_take_step, [], []⟩
abbrev s_come_to : Stmt := top 97
def d_come_to : He.DefD := ⟨("come_to", none), "come_to", "come_to", defArgs s_come_to, defBody s_come_to, defScope s_come_to, [], []⟩
abbrev s_go_by_car : Stmt := top 98
def d_go_by_car : He.DefD := ⟨("go_by_car", none), "go_by_car", "go_by_car", defArgs s_go_by_car, defBody s_go_by_car, defScope s_go_by_car, [], []⟩
abbrev s_go_by_departure : Stmt := top 99
def d_go_by_departure : He.DefD := ⟨("go_by_departure", none), "go_by_departure", "go_by_departure", defArgs s_go_by_departure, defBody s_go_by_departure, defScope s_go_by_departure, [], []⟩
abbrev s_wait_in_vain : Stmt := top 100
def d_wait_in_vain : He.DefD := ⟨("wait_in_vain", none), "wait_in_vain", "wait_in_vain", defArgs s_wait_in_vain, defBody s_wait_in_vain, defScope s_wait_in_vain, [], []⟩
abbrev s_told_journey : Stmt := top 101
def d_told_journey : He.DefD := ⟨("told_journey", none), "told_journey", "told_journey", defArgs s_told_journey, defBody s_told_journey, defScope s_told_journey, [], []⟩
abbrev s_read_behind : Stmt := top 114
def d_read_behind : He.DefD := ⟨("read_behind", none), "read_behind", "read_behind", defArgs s_read_behind, defBody s_read_behind, defScope s_read_behind, [], []⟩
abbrev s_read_line : Stmt := top 115
def d_read_line : He.DefD := ⟨("read_line", none), "read_line", "read_line", defArgs s_read_line, defBody s_read_line, defScope s_read_line, [], []⟩
abbrev s_need_room : Stmt := top 116
def d_need_room : He.DefD := ⟨("need_room", none), "need_room", "need_room", defArgs s_need_room, defBody s_need_room, defScope s_need_room, [], []⟩
abbrev s_read_place : Stmt := top 117
def d_read_place : He.DefD := ⟨("read_place", none), "read_place", "read_place", defArgs s_read_place, defBody s_read_place, defScope s_read_place, [], []⟩
abbrev s_read_car : Stmt := top 118
def d_read_car : He.DefD := ⟨("read_car", none), "read_car", "read_car", defArgs s_read_car, defBody s_read_car, defScope s_read_car, [], []⟩
abbrev s_read_departure : Stmt := top 119
def d_read_departure : He.DefD := ⟨("read_departure", none), "read_departure", "read_departure", defArgs s_read_departure, defBody s_read_departure, defScope s_read_departure, [], []⟩
abbrev s_take_new_name : Stmt := top 120
def d_take_new_name : He.DefD := ⟨("take_new_name", none), "take_new_name", "take_new_name", defArgs s_take_new_name, defBody s_take_new_name, defScope s_take_new_name, [], []⟩
abbrev s_place_of_word : Stmt := top 121
def d_place_of_word : He.DefD := ⟨("place_of_word", none), "place_of_word", "place_of_word", defArgs s_place_of_word, defBody s_place_of_word, defScope s_place_of_word, [], []⟩
abbrev s_take_place : Stmt := top 122
def d_take_place : He.DefD := ⟨("take_place", none), "take_place", "take_place", defArgs s_take_place, defBody s_take_place, defScope s_take_place, [], []⟩
abbrev s_take_other_place : Stmt := top 123
def d_take_other_place : He.DefD := ⟨("take_other_place", none), "take_other_place", "take_other_place", defArgs s_take_other_place, defBody s_take_other_place, defScope s_take_other_place, [], []⟩
abbrev s_number_between : Stmt := top 124
def d_number_between : He.DefD := ⟨("number_between", none), "number_between", "number_between", defArgs s_number_between, defBody s_number_between, defScope s_number_between, [], []⟩
abbrev s_take_number_between : Stmt := top 125
def d_take_number_between : He.DefD := ⟨("take_number_between", none), "take_number_between", "take_number_between", defArgs s_take_number_between, defBody s_take_number_between, defScope s_take_number_between, [], []⟩
abbrev s_take_later_minute : Stmt := top 126
def d_take_later_minute : He.DefD := ⟨("take_later_minute", none), "take_later_minute", "take_later_minute", defArgs s_take_later_minute, defBody s_take_later_minute, defScope s_take_later_minute, [], []⟩
abbrev s_written_line : Stmt := top 127
def d_written_line : He.DefD := ⟨("written_line", none), "written_line", "written_line", defArgs s_written_line, defBody s_written_line, defScope s_written_line, [], []⟩
abbrev s_written_number : Stmt := top 128
def d_written_number : He.DefD := ⟨("written_number", none), "written_number", "written_number", defArgs s_written_number, defBody s_written_number, defScope s_written_number, [], []⟩
abbrev s_written_place : Stmt := top 129
def d_written_place : He.DefD := ⟨("written_place", none), "written_place", "written_place", defArgs s_written_place, defBody s_written_place, defScope s_written_place, [], []⟩
abbrev s_written_car : Stmt := top 130
def d_written_car : He.DefD := ⟨("written_car", none), "written_car", "written_car", defArgs s_written_car, defBody s_written_car, defScope s_written_car, [], []⟩
abbrev s_written_departure : Stmt := top 131
def d_written_departure : He.DefD := ⟨("written_departure", none), "written_departure", "written_departure", defArgs s_written_departure, defBody s_written_departure, defScope s_written_departure, [], []⟩
abbrev s_written_net : Stmt := top 132
def d_written_net : He.DefD := ⟨("written_net", none), "written_net", "written_net", defArgs s_written_net, defBody s_written_net, defScope s_written_net, [], []⟩
abbrev s_minutes_just_in_time : Stmt := top 134
def d_minutes_just_in_time : He.DefD := ⟨("minutes_just_in_time", none), "minutes_just_in_time", "minutes_just_in_time", defArgs s_minutes_just_in_time, defBody s_minutes_just_in_time, defScope s_minutes_just_in_time, [], []⟩
abbrev s_last_start : Stmt := top 135
def d_last_start : He.DefD := ⟨("last_start", none), "last_start", "last_start", defArgs s_last_start, defBody s_last_start, defScope s_last_start, [], []⟩
abbrev s_profile_minutes : Stmt := top 136
def d_profile_minutes : He.DefD := ⟨("profile_minutes", none), "profile_minutes", "profile_minutes", defArgs s_profile_minutes, defBody s_profile_minutes, defScope s_profile_minutes, [], []⟩
abbrev s_is_worth_telling : Stmt := top 137
def d_is_worth_telling : He.DefD := ⟨("is_worth_telling", none), "is_worth_telling", "is_worth_telling", defArgs s_is_worth_telling, defBody s_is_worth_telling, defScope s_is_worth_telling, [], []⟩
abbrev s_Session_init : Stmt := inClass (top 139) 0
def d_Session_init : He.DefD := ⟨("Session", some "__init__"), "__init__", "Session.__init__", defArgs s_Session_init, defBody s_Session_init, defScope s_Session_init, [], []⟩
abbrev s_Call_init : Stmt := inClass (top 140) 0
def d_Call_init : He.DefD := ⟨("Call", some "__init__"), "__init__", "Call.__init__", defArgs s_Call_init, defBody s_Call_init, defScope s_Call_init, [], []⟩
abbrev s_sizes_of : Stmt := top 141
def d_sizes_of : He.DefD := ⟨("sizes_of", none), "sizes_of", "sizes_of", defArgs s_sizes_of, defBody s_sizes_of, defScope s_sizes_of, [], []⟩
abbrev s_call_net : Stmt := top 142
def d_call_net : He.DefD := ⟨("call_net", none), "call_net", "call_net", defArgs s_call_net, defBody s_call_net, defScope s_call_net, [], []⟩
abbrev s_call_add : Stmt := top 143
def d_call_add : He.DefD := ⟨("call_add", none), "call_add", "call_add", defArgs s_call_add, defBody s_call_add, defScope s_call_add, [], []⟩
abbrev s_call_text : Stmt := top 144
def d_call_text : He.DefD := ⟨("call_text", none), "call_text", "call_text", defArgs s_call_text, defBody s_call_text, defScope s_call_text, [], []⟩
abbrev s_call_without : Stmt := top 145
def d_call_without : He.DefD := ⟨("call_without", none), "call_without", "call_without", defArgs s_call_without, defBody s_call_without, defScope s_call_without, [], []⟩
abbrev s_call_shift : Stmt := top 146
def d_call_shift : He.DefD := ⟨("call_shift", none), "call_shift", "call_shift", defArgs s_call_shift, defBody s_call_shift, defScope s_call_shift, [], []⟩
abbrev s_need_start : Stmt := top 147
def d_need_start : He.DefD := ⟨("need_start", none), "need_start", "need_start", defArgs s_need_start, defBody s_need_start, defScope s_need_start, [], []⟩
abbrev s_outlook_to : Stmt := top 148
def d_outlook_to : He.DefD := ⟨("outlook_to", none), "outlook_to", "outlook_to", defArgs s_outlook_to, defBody s_outlook_to, defScope s_outlook_to, [], []⟩
abbrev s_outlook_of : Stmt := top 149
def d_outlook_of : He.DefD := ⟨("outlook_of", none), "outlook_of", "outlook_of", defArgs s_outlook_of, defBody s_outlook_of, defScope s_outlook_of, [], []⟩
abbrev s_need_some : Stmt := top 150
def d_need_some : He.DefD := ⟨("need_some", none), "need_some", "need_some", defArgs s_need_some, defBody s_need_some, defScope s_need_some, [], []⟩
abbrev s_call_sure : Stmt := top 151
def d_call_sure : He.DefD := ⟨("call_sure", none), "call_sure", "call_sure", defArgs s_call_sure, defBody s_call_sure, defScope s_call_sure, [], []⟩
abbrev s_sure_to_each : Stmt := top 152
def d_sure_to_each : He.DefD := ⟨("sure_to_each", none), "sure_to_each", "sure_to_each", defArgs s_sure_to_each, defBody s_sure_to_each, defScope s_sure_to_each, [], []⟩
abbrev s_told_minutes : Stmt := top 153
def d_told_minutes : He.DefD := ⟨("told_minutes", none), "told_minutes", "told_minutes", defArgs s_told_minutes, defBody s_told_minutes, defScope s_told_minutes, [], []⟩
abbrev s_call_table : Stmt := top 154
def d_call_table : He.DefD := ⟨("call_table", none), "call_table", "call_table", defArgs s_call_table, defBody s_call_table, defScope s_call_table, [], []⟩
abbrev s_call_next : Stmt := top 155
def d_call_next : He.DefD := ⟨("call_next", none), "call_next", "call_next", defArgs s_call_next, defBody s_call_next, defScope s_call_next, [], []⟩
abbrev s_call_play : Stmt := top 156
def d_call_play : He.DefD := ⟨("call_play", none), "call_play", "call_play", defArgs s_call_play, defBody s_call_play, defScope s_call_play, [], []⟩
abbrev s_call_last : Stmt := top 157
def d_call_last : He.DefD := ⟨("call_last", none), "call_last", "call_last", defArgs s_call_last, defBody s_call_last, defScope s_call_last, [], []⟩
abbrev s_call_profile : Stmt := top 158
def d_call_profile : He.DefD := ⟨("call_profile", none), "call_profile", "call_profile", defArgs s_call_profile, defBody s_call_profile, defScope s_call_profile, [], []⟩
abbrev s_call_worst : Stmt := top 159
def d_call_worst : He.DefD := ⟨("call_worst", none), "call_worst", "call_worst", defArgs s_call_worst, defBody s_call_worst, defScope s_call_worst, [], []⟩
abbrev s_call_cars : Stmt := top 160
def d_call_cars : He.DefD := ⟨("call_cars", none), "call_cars", "call_cars", defArgs s_call_cars, defBody s_call_cars, defScope s_call_cars, [], []⟩
abbrev s_call_who : Stmt := top 161
def d_call_who : He.DefD := ⟨("call_who", none), "call_who", "call_who", defArgs s_call_who, defBody s_call_who, defScope s_call_who, [], []⟩
abbrev s_call_stands : Stmt := top 162
def d_call_stands : He.DefD := ⟨("call_stands", none), "call_stands", "call_stands", defArgs s_call_stands, defBody s_call_stands, defScope s_call_stands, [], []⟩
abbrev s_call_state : Stmt := top 163
def d_call_state : He.DefD := ⟨("call_state", none), "call_state", "call_state", defArgs s_call_state, defBody s_call_state, defScope s_call_state, [], []⟩
abbrev s_call_find : Stmt := top 164
def d_call_find : He.DefD := ⟨("call_find", none), "call_find", "call_find", defArgs s_call_find, defBody s_call_find, defScope s_call_find, [], []⟩
abbrev s_call_worths : Stmt := top 165
def d_call_worths : He.DefD := ⟨("call_worths", none), "call_worths", "call_worths", defArgs s_call_worths, defBody s_call_worths, defScope s_call_worths, [], []⟩
abbrev s_call_at : Stmt := top 168
def d_call_at : He.DefD := ⟨("call_at", none), "call_at", "call_at", defArgs s_call_at, defBody s_call_at, defScope s_call_at, [], []⟩
abbrev s_answer_of : Stmt := top 169
def d_answer_of : He.DefD := ⟨("answer_of", none), "answer_of", "answer_of", defArgs s_answer_of, defBody s_answer_of, defScope s_answer_of, [], []⟩
abbrev s_answers : Stmt := top 170
def d_answers : He.DefD := ⟨("answers", none), "answers", "answers", defArgs s_answers, defBody s_answers, defScope s_answers, [], []⟩
def fn0 : List He.DefD := [d_TextFault_init, d_Place_init, d_Car_init, d_Departure_init, d_Net_init, d_copy_of_net, d_number_of_name, d_number_of_departure, d_kind_and_number, d_net_without, d_shifted_departure, d_net_with_shift, d_Word_init, d_Line_init, d_Line_has_more, d_Line_take, d_Line_close, d_words_between, d_lines_of, d_bytes_of, d_is_letter, d_is_digit, d_is_name, d_is_number, d_number_told]
def fn1 : List He.DefD := [d_take_name, d_take_number, d_need_between, d_need_row, d_need_text, d_need_name, d_need_played, d_need_shift, d_need_k, d_need_minute, d_need_places, d_Ways_init, d_single_cars_table, d_coming_table, d_shorter_row, d_ready_table, d_Outlook_init, d_Choice_init, d_add_worths, d_latest_first, d_worth_of, d_sure_if_it_goes, d_sure_if_cancelled, d_minute_there, d_sure_from]
def fn2 : List He.DefD := [d_by_cars_alone, d_departures_in_time, d_what_to_do, d_departure_to_take, d_car_to_goal, d_car_to_be_ready, d_Traveller_init, d_play_journey, d_play_worst_case, d_is_worse_cancelled, d_goes_on, d_choice_of, d_take_step, d_come_to, d_go_by_car, d_go_by_departure, d_wait_in_vain, d_told_journey, d_read_behind, d_read_line, d_need_room, d_read_place, d_read_car, d_read_departure, d_take_new_name]
def fn3 : List He.DefD := [d_place_of_word, d_take_place, d_take_other_place, d_number_between, d_take_number_between, d_take_later_minute, d_written_line, d_written_number, d_written_place, d_written_car, d_written_departure, d_written_net, d_minutes_just_in_time, d_last_start, d_profile_minutes, d_is_worth_telling, d_Session_init, d_Call_init, d_sizes_of, d_call_net, d_call_add, d_call_text, d_call_without, d_call_shift, d_need_start]
def fn4 : List He.DefD := [d_outlook_to, d_outlook_of, d_need_some, d_call_sure, d_sure_to_each, d_told_minutes, d_call_table, d_call_next, d_call_play, d_call_last, d_call_profile, d_call_worst, d_call_cars, d_call_who, d_call_stands, d_call_state, d_call_find, d_call_worths, d_call_at, d_answer_of, d_answers]
def fn : List He.DefD := fn0 ++ (fn1 ++ (fn2 ++ (fn3 ++ (fn4))))
def fa0 : List He.Fa := [.glo "NotAsTold", .glo "NoSuchPlace", .glo "NoSuchName", .glo "NothingSure", .glo "OutsideTimes", .glo "TextFault", .noat "TextFault" "kind", .noat "TextFault" "place", .int "LAST_MINUTE" 100000, .glo "Place", .cls "Place", .mkr "Place", .noat "Place" "name", .noat "Place" "handling", .glo "Car", .cls "Car", .mkr "Car", .noat "Car" "name", .noat "Car" "origin", .noat "Car" "end", .noat "Car" "minutes", .glo "Departure", .cls "Departure", .mkr "Departure", .noat "Departure" "name"]
def fa1 : List He.Fa := [.noat "Departure" "origin", .noat "Departure" "leaves", .noat "Departure" "end", .noat "Departure" "comes", .glo "Net", .cls "Net", .mkr "Net", .noat "Net" "places", .noat "Net" "cars", .noat "Net" "departures", .glo "copy_of_net", .glo "number_of_name", .glo "number_of_departure", .glo "kind_and_number", .glo "net_without", .glo "shifted_departure", .glo "net_with_shift", .int "NEW_LINE" 10, .int "BLANK" 32, .int "SMALL_A" 97, .int "SMALL_Z" 122, .int "DIGIT_0" 48, .int "DIGIT_9" 57, .int "LONGEST_NAME" 12, .int "LONGEST_NUMBER" 6]
def fa2 : List He.Fa := [.int "WRONG_WORD" 1, .glo "Word", .cls "Word", .mkr "Word", .noat "Word" "signs", .noat "Word" "place", .glo "Line", .cls "Line", .mkr "Line", .noat "Line" "words", .noat "Line" "behind", .noat "Line" "taken", .meth "Line" "has_more", .meth "Line" "take", .meth "Line" "close", .glo "words_between", .glo "lines_of", .glo "bytes_of", .glo "is_letter", .glo "is_digit", .glo "is_name", .glo "is_number", .glo "number_told", .glo "take_name", .glo "take_number"]
def fa3 : List He.Fa := [.int "HIGHEST_K" 3, .int "HIGHEST_PLACE" 7, .int "HIGHEST_BYTE" 255, .int "LONGEST_TEXT" 4000, .int "MOST_PLAYED" 30, .int "HIGHEST_PLAYED" 29, .int "FARTHEST_SHIFT" 100000, .glo "need_between", .glo "need_row", .glo "need_text", .glo "need_name", .glo "need_played", .glo "need_shift", .glo "need_k", .glo "need_minute", .glo "need_places", .int "NEVER" 1000000000, .glo "Ways", .cls "Ways", .mkr "Ways", .noat "Ways" "coming", .noat "Ways" "ready", .glo "single_cars_table", .glo "coming_table", .glo "shorter_row"]
def fa4 : List He.Fa := [.glo "ready_table", .int "AT_GOAL" 0, .int "BY_CAR" 1, .int "BY_DEPARTURE" 2, .glo "Outlook", .cls "Outlook", .mkr "Outlook", .noat "Outlook" "net", .noat "Outlook" "ways", .noat "Outlook" "goal", .noat "Outlook" "worths", .glo "Choice", .cls "Choice", .mkr "Choice", .noat "Choice" "kind", .noat "Choice" "number", .glo "add_worths", .glo "latest_first", .glo "worth_of", .glo "sure_if_it_goes", .glo "sure_if_cancelled", .glo "minute_there", .glo "sure_from", .glo "by_cars_alone", .glo "departures_in_time"]
def fa5 : List He.Fa := [.glo "what_to_do", .glo "departure_to_take", .glo "car_to_goal", .glo "car_to_be_ready", .int "STEP_BY_CAR" 1, .int "STEP_BY_DEPARTURE" 2, .int "STEP_CANCELLED" 3, .int "NUMBERS_OF_A_STEP" 3, .glo "Traveller", .cls "Traveller", .mkr "Traveller", .noat "Traveller" "k", .noat "Traveller" "minute", .noat "Traveller" "place", .noat "Traveller" "steps", .glo "play_journey", .glo "play_worst_case", .glo "is_worse_cancelled", .glo "goes_on", .glo "choice_of", .glo "take_step", .glo "come_to", .glo "go_by_car", .glo "go_by_departure", .glo "wait_in_vain"]
def fa6 : List He.Fa := [.glo "told_journey", .int "MOST_PLACES" 8, .int "MOST_CARS" 16, .int "MOST_DEPARTURES" 30, .int "MOST_HANDLING" 1000, .int "LONGEST_CAR" 10000, .int "OUT_OF_RANGE" 3, .int "NAME_TAKEN" 4, .int "NO_PLACE" 5, .int "SAME_PLACE" 6, .int "NO_ROOM" 7, .int "NOT_LATER" 8, .glo "read_behind", .glo "read_line", .glo "need_room", .glo "read_place", .glo "read_car", .glo "read_departure", .glo "take_new_name", .glo "place_of_word", .glo "take_place", .glo "take_other_place", .glo "number_between", .glo "take_number_between", .glo "take_later_minute"]
def fa7 : List He.Fa := [.glo "written_line", .glo "written_number", .glo "written_place", .glo "written_car", .glo "written_departure", .glo "written_net", .glo "minutes_just_in_time", .glo "last_start", .glo "profile_minutes", .glo "is_worth_telling", .glo "Session", .cls "Session", .mkr "Session", .noat "Session" "net", .glo "Call", .cls "Call", .mkr "Call", .noat "Call" "kind", .noat "Call" "numbers", .noat "Call" "rows", .noat "Call" "behind", .glo "sizes_of", .glo "call_net", .glo "call_add", .glo "call_text"]
def fa8 : List He.Fa := [.glo "call_without", .glo "call_shift", .glo "need_start", .glo "outlook_to", .glo "outlook_of", .glo "need_some", .glo "call_sure", .glo "sure_to_each", .glo "told_minutes", .glo "call_table", .glo "call_next", .glo "call_play", .glo "call_last", .glo "call_profile", .glo "call_worst", .glo "call_cars", .glo "call_who", .glo "call_stands", .glo "call_state", .glo "call_find", .glo "call_worths", .glo "SHAPES", .glo "HANDLERS", .glo "call_at", .glo "answer_of"]
def fa9 : List He.Fa := [.glo "answers", .free "len", .free "range", .free "enumerate", .free "zip", .free "min", .free "max", .free "all", .free "sorted", .free "ord", .free "str", .free "list", .free "set"]
def fa : List He.Fa := fa0 ++ (fa1 ++ (fa2 ++ (fa3 ++ (fa4 ++ (fa5 ++ (fa6 ++ (fa7 ++ (fa8 ++ (fa9)))))))))
def names0 : List Str := ["NotAsTold", "NoSuchPlace", "NoSuchName", "NothingSure", "OutsideTimes", "TextFault", "LAST_MINUTE", "Place", "Car", "Departure", "Net", "copy_of_net", "number_of_name", "number_of_departure", "kind_and_number", "net_without", "shifted_departure", "net_with_shift", "NEW_LINE", "BLANK", "SMALL_A", "SMALL_Z", "DIGIT_0", "DIGIT_9", "LONGEST_NAME"]
def names1 : List Str := ["LONGEST_NUMBER", "WRONG_WORD", "Word", "Line", "words_between", "lines_of", "bytes_of", "is_letter", "is_digit", "is_name", "is_number", "number_told", "take_name", "take_number", "HIGHEST_K", "HIGHEST_PLACE", "HIGHEST_BYTE", "LONGEST_TEXT", "MOST_PLAYED", "HIGHEST_PLAYED", "FARTHEST_SHIFT", "need_between", "need_row", "need_text", "need_name"]
def names2 : List Str := ["need_played", "need_shift", "need_k", "need_minute", "need_places", "NEVER", "Ways", "single_cars_table", "coming_table", "shorter_row", "ready_table", "AT_GOAL", "BY_CAR", "BY_DEPARTURE", "Outlook", "Choice", "add_worths", "latest_first", "worth_of", "sure_if_it_goes", "sure_if_cancelled", "minute_there", "sure_from", "by_cars_alone", "departures_in_time"]
def names3 : List Str := ["what_to_do", "departure_to_take", "car_to_goal", "car_to_be_ready", "STEP_BY_CAR", "STEP_BY_DEPARTURE", "STEP_CANCELLED", "NUMBERS_OF_A_STEP", "Traveller", "play_journey", "play_worst_case", "is_worse_cancelled", "goes_on", "choice_of", "take_step", "come_to", "go_by_car", "go_by_departure", "wait_in_vain", "told_journey", "MOST_PLACES", "MOST_CARS", "MOST_DEPARTURES", "MOST_HANDLING", "LONGEST_CAR"]
def names4 : List Str := ["OUT_OF_RANGE", "NAME_TAKEN", "NO_PLACE", "SAME_PLACE", "NO_ROOM", "NOT_LATER", "read_behind", "read_line", "need_room", "read_place", "read_car", "read_departure", "take_new_name", "place_of_word", "take_place", "take_other_place", "number_between", "take_number_between", "take_later_minute", "written_line", "written_number", "written_place", "written_car", "written_departure", "written_net"]
def names5 : List Str := ["minutes_just_in_time", "last_start", "profile_minutes", "is_worth_telling", "Session", "Call", "sizes_of", "call_net", "call_add", "call_text", "call_without", "call_shift", "need_start", "outlook_to", "outlook_of", "need_some", "call_sure", "sure_to_each", "told_minutes", "call_table", "call_next", "call_play", "call_last", "call_profile", "call_worst"]
def names6 : List Str := ["call_cars", "call_who", "call_stands", "call_state", "call_find", "call_worths", "SHAPES", "HANDLERS", "call_at", "answer_of"]
def names : List Str := names0 ++ (names1 ++ (names2 ++ (names3 ++ (names4 ++ (names5 ++ (names6))))))
def exc0s : List Str := ["NotAsTold", "NoSuchPlace", "NoSuchName", "NothingSure", "OutsideTimes"]
def lamDefs : List He.Defn := [("latest_first", none), ("departure_to_take", none)]
def shapes : List (Int × Option (Int × Int)) := [(0, some (0, 1)), (1, some (0, 1)), (2, some (0, 0)), (3, some (0, 1)), (4, some (1, 1)), (5, some (4, 0)), (6, some (3, 0)), (7, some (4, 0)), (8, some (4, 1)), (9, some (4, 0)), (10, some (3, 0)), (11, some (4, 0)), (12, some (2, 0)), (13, some (4, 0)), (14, some (4, 0)), (15, some (0, 0)), (16, some (0, 1)), (17, some (2, 0))]
def handlers : List (Int × Str) := [(0, "call_net"), (1, "call_add"), (2, "call_text"), (3, "call_without"), (4, "call_shift"), (5, "call_sure"), (6, "call_table"), (7, "call_next"), (8, "call_play"), (9, "call_last"), (10, "call_profile"), (11, "call_worst"), (12, "call_cars"), (13, "call_who"), (14, "call_stands"), (15, "call_state"), (16, "call_find"), (17, "call_worths")]
def excs : List Str := ["NotAsTold", "NoSuchPlace", "NoSuchName", "NothingSure", "OutsideTimes", "TextFault"]
/-- an own error over Exception, of the class named x: what a raise and an except clause lean on -/
def excB : List Value := [.type "Exception", .type "BaseException", .type "object"]
def excOk (K : PySem.W.Frag) (x : Str) : Bool := PySem.W.excIn K (He.ga K x) excB "Exception.__new__" && (PySem.W.keepIn K (.ref (He.ga K x)) && (decide (PySem.W.subIn K (.ref (He.ga K x)) (.type "BaseException") = some true) && decide (PySem.W.typeIn K (.ref (He.ga K x)) = some (.type "type"))))
/-- TextFault, with its own __init__ -/
def faultOk (K : PySem.W.Frag) : Bool :=
  (match K.lookup (He.ga K "TextFault") with
    | some ⟨.type "type", _, .cls cd, sl⟩ => decide (cd.mro = .ref (He.ga K "TextFault") :: excB) && (!cd.hasDel && (cd.hasDict && (match sl.toList with
      | [_, _, _, _, some (.builtin n), _] => n == "Exception.__new__"
      | _ => false)))
    | _ => false) &&
  (He.eqO (PySem.W.findIn K (.ref (He.ga K "TextFault")) "__setattr__") (some (some (.builtin "object.__setattr__"))) && (He.eqO (PySem.W.findIn K (.ref (He.ga K "TextFault")) "__getattribute__") (some (some (.builtin "BaseException.__getattribute__"))) &&
  (He.eqO (PySem.W.findIn K (.ref (He.ga K "TextFault")) "__getattr__") (some none) && (He.eqO (PySem.W.findIn K (.ref (He.ga K "TextFault")) "__init__") (some (some (.ref (He.ma K (He.ga K "TextFault") "__init__")))) &&
  (decide (PySem.W.typeIn K (.ref (He.ma K (He.ga K "TextFault") "__init__")) = some (.type "function")) && (PySem.W.keepIn K (.ref (He.ga K "TextFault")) && (decide (PySem.W.subIn K (.ref (He.ga K "TextFault")) (.type "BaseException") = some true) &&
  (decide (PySem.W.typeIn K (.ref (He.ga K "TextFault")) = some (.type "type")) && PySem.W.hasDictIn K (He.ga K "TextFault")))))))))
def intEnt (e : DictEntry) : Bool := match e.key with
  | .int i _ => decide (e.hash = hashInt i)
  | _ => false
def entKV (e : DictEntry) : Option (Int × Value) := match e.key with
  | .int i _ => some (i, e.val)
  | _ => none
/-- the entries of a written dict with int keys -/
def entsOf (K : PySem.W.Frag) (x : Str) : List (Int × Value) := match K.lookup (He.ga K x) with
  | some ⟨.type c, none, .dict es _, sl⟩ => if c = "dict" ∧ sl.isEmpty = true ∧ es.toList.all intEnt = true then es.toList.filterMap entKV else []
  | _ => []
/-- a pair of ints, written -/
def pairOf (K : PySem.W.Frag) (v : Value) : Option (Int × Int) := match v with
  | .ref a => (match K.lookup a with
    | some ⟨.type c, _, .seq its _, _⟩ => (match its.toList with
      | [.int i _, .int j _] => if c = "tuple" then some (i, j) else none
      | _ => none)
    | _ => none)
  | _ => none
/-- what else the head looks at -/
def moreOk (K : PySem.W.Frag) : Bool := exc0s.all (excOk K) && (faultOk K && (excs.all (fun x => excs.all fun y => decide (PySem.W.exmOne K (.ref (He.ga K x)) (.ref (He.ga K y)) = some (x == y))) &&
  (decide ((entsOf K "SHAPES").map (fun e => (e.1, pairOf K e.2)) = shapes) && decide ((entsOf K "HANDLERS").map (fun e => (e.1, e.2)) = handlers.map fun h => (h.1, .ref (He.ga K h.2))))))
/-- the code objects of the defs that make lambdas, and their tables -/
def tabs (K : PySem.W.Frag) : List (Addr × Addr) := lamDefs.map (He.cT K)
/-- no two of the tables are one -/
def tabsNd (K : PySem.W.Frag) : Bool := decide (((tabs K).map fun p => p.2).Nodup)
/-- what the head tells -/
structure Fx (K : PySem.W.Frag) (mg : Str → Option Value) (base : Heap) : Prop where
  says : He.SaysD fa fn K
  more : moreOk K = true
  tnd : tabsNd K = true
  tab : ∀ p ∈ tabs K, LamX.TabB base mg p.1 p.2
  ex : ∃ h : Heap, K.In h ∧ h.Ns mainGlobals mg
section
variable {K : PySem.W.Frag} {mg : Str → Option Value} {base : Heap}
theorem Fx.glo (T : Fx K mg base) {x : Str} (c : (He.Fa.glo x).ok K = true) : mg x = some (.ref (He.ga K x)) := let ⟨_, X, G⟩ := T.ex; He.glo_ok X G c
theorem Fx.free (T : Fx K mg base) {x : Str} (c : (He.Fa.free x).ok K = true) : mg x = none := let ⟨_, X, G⟩ := T.ex; He.free_ok X G c
theorem Fx.int (T : Fx K mg base) {x : Str} {i : Int} (c : (He.Fa.int x i).ok K = true) : ∃ u, mg x = some u ∧ RelV (.int i) u := by
  obtain ⟨_, X, G⟩ := T.ex
  obtain ⟨t, h⟩ := He.int_ok X G c
  exact ⟨_, h, ⟨t, rfl⟩⟩
theorem g_NotAsTold (T : Fx K mg base) : mg "NotAsTold" = some (.ref (He.ga K "NotAsTold")) := T.glo (T.says.fact 0)
theorem g_NoSuchPlace (T : Fx K mg base) : mg "NoSuchPlace" = some (.ref (He.ga K "NoSuchPlace")) := T.glo (T.says.fact 1)
theorem g_NoSuchName (T : Fx K mg base) : mg "NoSuchName" = some (.ref (He.ga K "NoSuchName")) := T.glo (T.says.fact 2)
theorem g_NothingSure (T : Fx K mg base) : mg "NothingSure" = some (.ref (He.ga K "NothingSure")) := T.glo (T.says.fact 3)
theorem g_OutsideTimes (T : Fx K mg base) : mg "OutsideTimes" = some (.ref (He.ga K "OutsideTimes")) := T.glo (T.says.fact 4)
theorem g_TextFault (T : Fx K mg base) : mg "TextFault" = some (.ref (He.ga K "TextFault")) := T.glo (T.says.fact 5)
theorem F_TextFault_init (T : Fx K mg base) : ∃ fd, FunD K d_TextFault_init.name d_TextFault_init.qual d_TextFault_init.params d_TextFault_init.body d_TextFault_init.scope [] [] (He.fAd K d_TextFault_init.at_) fd := T.says.def_ 0
theorem n_TextFault_kind (T : Fx K mg base) : NoAttr K (He.ga K "TextFault") "kind" := He.noat_ok (T.says.fact 6)
theorem n_TextFault_place (T : Fx K mg base) : NoAttr K (He.ga K "TextFault") "place" := He.noat_ok (T.says.fact 7)
theorem i_LAST_MINUTE (T : Fx K mg base) : ∃ u, mg "LAST_MINUTE" = some u ∧ RelV (.int 100000) u := T.int (T.says.fact 8)
theorem g_Place (T : Fx K mg base) : mg "Place" = some (.ref (He.ga K "Place")) := T.glo (T.says.fact 9)
theorem c_Place (T : Fx K mg base) : Cls K (He.ga K "Place") := He.cls_ok (T.says.fact 10)
theorem F_Place_init (T : Fx K mg base) : ∃ fd, FunD K d_Place_init.name d_Place_init.qual d_Place_init.params d_Place_init.body d_Place_init.scope [] [] (He.fAd K d_Place_init.at_) fd := T.says.def_ 1
theorem m_Place (T : Fx K mg base) : Mk K (He.ga K "Place") (He.ma K (He.ga K "Place") "__init__") := He.mkr_ok (T.says.fact 11)
theorem n_Place_name (T : Fx K mg base) : NoAttr K (He.ga K "Place") "name" := He.noat_ok (T.says.fact 12)
theorem n_Place_handling (T : Fx K mg base) : NoAttr K (He.ga K "Place") "handling" := He.noat_ok (T.says.fact 13)
theorem g_Car (T : Fx K mg base) : mg "Car" = some (.ref (He.ga K "Car")) := T.glo (T.says.fact 14)
theorem c_Car (T : Fx K mg base) : Cls K (He.ga K "Car") := He.cls_ok (T.says.fact 15)
theorem F_Car_init (T : Fx K mg base) : ∃ fd, FunD K d_Car_init.name d_Car_init.qual d_Car_init.params d_Car_init.body d_Car_init.scope [] [] (He.fAd K d_Car_init.at_) fd := T.says.def_ 2
theorem m_Car (T : Fx K mg base) : Mk K (He.ga K "Car") (He.ma K (He.ga K "Car") "__init__") := He.mkr_ok (T.says.fact 16)
theorem n_Car_name (T : Fx K mg base) : NoAttr K (He.ga K "Car") "name" := He.noat_ok (T.says.fact 17)
theorem n_Car_origin (T : Fx K mg base) : NoAttr K (He.ga K "Car") "origin" := He.noat_ok (T.says.fact 18)
theorem n_Car_end (T : Fx K mg base) : NoAttr K (He.ga K "Car") "end" := He.noat_ok (T.says.fact 19)
theorem n_Car_minutes (T : Fx K mg base) : NoAttr K (He.ga K "Car") "minutes" := He.noat_ok (T.says.fact 20)
theorem g_Departure (T : Fx K mg base) : mg "Departure" = some (.ref (He.ga K "Departure")) := T.glo (T.says.fact 21)
theorem c_Departure (T : Fx K mg base) : Cls K (He.ga K "Departure") := He.cls_ok (T.says.fact 22)
theorem F_Departure_init (T : Fx K mg base) : ∃ fd, FunD K d_Departure_init.name d_Departure_init.qual d_Departure_init.params d_Departure_init.body d_Departure_init.scope [] [] (He.fAd K d_Departure_init.at_) fd := T.says.def_ 3
theorem m_Departure (T : Fx K mg base) : Mk K (He.ga K "Departure") (He.ma K (He.ga K "Departure") "__init__") := He.mkr_ok (T.says.fact 23)
theorem n_Departure_name (T : Fx K mg base) : NoAttr K (He.ga K "Departure") "name" := He.noat_ok (T.says.fact 24)
theorem n_Departure_origin (T : Fx K mg base) : NoAttr K (He.ga K "Departure") "origin" := He.noat_ok (T.says.fact 25)
theorem n_Departure_leaves (T : Fx K mg base) : NoAttr K (He.ga K "Departure") "leaves" := He.noat_ok (T.says.fact 26)
theorem n_Departure_end (T : Fx K mg base) : NoAttr K (He.ga K "Departure") "end" := He.noat_ok (T.says.fact 27)
theorem n_Departure_comes (T : Fx K mg base) : NoAttr K (He.ga K "Departure") "comes" := He.noat_ok (T.says.fact 28)
theorem g_Net (T : Fx K mg base) : mg "Net" = some (.ref (He.ga K "Net")) := T.glo (T.says.fact 29)
theorem c_Net (T : Fx K mg base) : Cls K (He.ga K "Net") := He.cls_ok (T.says.fact 30)
theorem F_Net_init (T : Fx K mg base) : ∃ fd, FunD K d_Net_init.name d_Net_init.qual d_Net_init.params d_Net_init.body d_Net_init.scope [] [] (He.fAd K d_Net_init.at_) fd := T.says.def_ 4
theorem m_Net (T : Fx K mg base) : Mk K (He.ga K "Net") (He.ma K (He.ga K "Net") "__init__") := He.mkr_ok (T.says.fact 31)
theorem n_Net_places (T : Fx K mg base) : NoAttr K (He.ga K "Net") "places" := He.noat_ok (T.says.fact 32)
theorem n_Net_cars (T : Fx K mg base) : NoAttr K (He.ga K "Net") "cars" := He.noat_ok (T.says.fact 33)
theorem n_Net_departures (T : Fx K mg base) : NoAttr K (He.ga K "Net") "departures" := He.noat_ok (T.says.fact 34)
theorem F_copy_of_net (T : Fx K mg base) : ∃ fd, FunD K d_copy_of_net.name d_copy_of_net.qual d_copy_of_net.params d_copy_of_net.body d_copy_of_net.scope [] [] (He.fAd K d_copy_of_net.at_) fd := T.says.def_ 5
theorem g_copy_of_net (T : Fx K mg base) : mg "copy_of_net" = some (.ref (He.ga K "copy_of_net")) := T.glo (T.says.fact 35)
theorem F_number_of_name (T : Fx K mg base) : ∃ fd, FunD K d_number_of_name.name d_number_of_name.qual d_number_of_name.params d_number_of_name.body d_number_of_name.scope [] [] (He.fAd K d_number_of_name.at_) fd := T.says.def_ 6
theorem g_number_of_name (T : Fx K mg base) : mg "number_of_name" = some (.ref (He.ga K "number_of_name")) := T.glo (T.says.fact 36)
theorem F_number_of_departure (T : Fx K mg base) : ∃ fd, FunD K d_number_of_departure.name d_number_of_departure.qual d_number_of_departure.params d_number_of_departure.body d_number_of_departure.scope [] [] (He.fAd K d_number_of_departure.at_) fd := T.says.def_ 7
theorem g_number_of_departure (T : Fx K mg base) : mg "number_of_departure" = some (.ref (He.ga K "number_of_departure")) := T.glo (T.says.fact 37)
theorem F_kind_and_number (T : Fx K mg base) : ∃ fd, FunD K d_kind_and_number.name d_kind_and_number.qual d_kind_and_number.params d_kind_and_number.body d_kind_and_number.scope [] [] (He.fAd K d_kind_and_number.at_) fd := T.says.def_ 8
theorem g_kind_and_number (T : Fx K mg base) : mg "kind_and_number" = some (.ref (He.ga K "kind_and_number")) := T.glo (T.says.fact 38)
theorem F_net_without (T : Fx K mg base) : ∃ fd, FunD K d_net_without.name d_net_without.qual d_net_without.params d_net_without.body d_net_without.scope [] [] (He.fAd K d_net_without.at_) fd := T.says.def_ 9
theorem g_net_without (T : Fx K mg base) : mg "net_without" = some (.ref (He.ga K "net_without")) := T.glo (T.says.fact 39)
theorem F_shifted_departure (T : Fx K mg base) : ∃ fd, FunD K d_shifted_departure.name d_shifted_departure.qual d_shifted_departure.params d_shifted_departure.body d_shifted_departure.scope [] [] (He.fAd K d_shifted_departure.at_) fd := T.says.def_ 10
theorem g_shifted_departure (T : Fx K mg base) : mg "shifted_departure" = some (.ref (He.ga K "shifted_departure")) := T.glo (T.says.fact 40)
theorem F_net_with_shift (T : Fx K mg base) : ∃ fd, FunD K d_net_with_shift.name d_net_with_shift.qual d_net_with_shift.params d_net_with_shift.body d_net_with_shift.scope [] [] (He.fAd K d_net_with_shift.at_) fd := T.says.def_ 11
theorem g_net_with_shift (T : Fx K mg base) : mg "net_with_shift" = some (.ref (He.ga K "net_with_shift")) := T.glo (T.says.fact 41)
theorem i_NEW_LINE (T : Fx K mg base) : ∃ u, mg "NEW_LINE" = some u ∧ RelV (.int 10) u := T.int (T.says.fact 42)
theorem i_BLANK (T : Fx K mg base) : ∃ u, mg "BLANK" = some u ∧ RelV (.int 32) u := T.int (T.says.fact 43)
theorem i_SMALL_A (T : Fx K mg base) : ∃ u, mg "SMALL_A" = some u ∧ RelV (.int 97) u := T.int (T.says.fact 44)
theorem i_SMALL_Z (T : Fx K mg base) : ∃ u, mg "SMALL_Z" = some u ∧ RelV (.int 122) u := T.int (T.says.fact 45)
theorem i_DIGIT_0 (T : Fx K mg base) : ∃ u, mg "DIGIT_0" = some u ∧ RelV (.int 48) u := T.int (T.says.fact 46)
theorem i_DIGIT_9 (T : Fx K mg base) : ∃ u, mg "DIGIT_9" = some u ∧ RelV (.int 57) u := T.int (T.says.fact 47)
theorem i_LONGEST_NAME (T : Fx K mg base) : ∃ u, mg "LONGEST_NAME" = some u ∧ RelV (.int 12) u := T.int (T.says.fact 48)
theorem i_LONGEST_NUMBER (T : Fx K mg base) : ∃ u, mg "LONGEST_NUMBER" = some u ∧ RelV (.int 6) u := T.int (T.says.fact 49)
theorem i_WRONG_WORD (T : Fx K mg base) : ∃ u, mg "WRONG_WORD" = some u ∧ RelV (.int 1) u := T.int (T.says.fact 50)
theorem g_Word (T : Fx K mg base) : mg "Word" = some (.ref (He.ga K "Word")) := T.glo (T.says.fact 51)
theorem c_Word (T : Fx K mg base) : Cls K (He.ga K "Word") := He.cls_ok (T.says.fact 52)
theorem F_Word_init (T : Fx K mg base) : ∃ fd, FunD K d_Word_init.name d_Word_init.qual d_Word_init.params d_Word_init.body d_Word_init.scope [] [] (He.fAd K d_Word_init.at_) fd := T.says.def_ 12
theorem m_Word (T : Fx K mg base) : Mk K (He.ga K "Word") (He.ma K (He.ga K "Word") "__init__") := He.mkr_ok (T.says.fact 53)
theorem n_Word_signs (T : Fx K mg base) : NoAttr K (He.ga K "Word") "signs" := He.noat_ok (T.says.fact 54)
theorem n_Word_place (T : Fx K mg base) : NoAttr K (He.ga K "Word") "place" := He.noat_ok (T.says.fact 55)
theorem g_Line (T : Fx K mg base) : mg "Line" = some (.ref (He.ga K "Line")) := T.glo (T.says.fact 56)
theorem c_Line (T : Fx K mg base) : Cls K (He.ga K "Line") := He.cls_ok (T.says.fact 57)
theorem F_Line_init (T : Fx K mg base) : ∃ fd, FunD K d_Line_init.name d_Line_init.qual d_Line_init.params d_Line_init.body d_Line_init.scope [] [] (He.fAd K d_Line_init.at_) fd := T.says.def_ 13
theorem m_Line (T : Fx K mg base) : Mk K (He.ga K "Line") (He.ma K (He.ga K "Line") "__init__") := He.mkr_ok (T.says.fact 58)
theorem n_Line_words (T : Fx K mg base) : NoAttr K (He.ga K "Line") "words" := He.noat_ok (T.says.fact 59)
theorem n_Line_behind (T : Fx K mg base) : NoAttr K (He.ga K "Line") "behind" := He.noat_ok (T.says.fact 60)
theorem n_Line_taken (T : Fx K mg base) : NoAttr K (He.ga K "Line") "taken" := He.noat_ok (T.says.fact 61)
theorem F_Line_has_more (T : Fx K mg base) : ∃ fd, FunD K d_Line_has_more.name d_Line_has_more.qual d_Line_has_more.params d_Line_has_more.body d_Line_has_more.scope [] [] (He.fAd K d_Line_has_more.at_) fd := T.says.def_ 14
theorem m_Line_has_more (T : Fx K mg base) : Meth K (He.ga K "Line") "has_more" (He.ma K (He.ga K "Line") "has_more") := He.meth_ok (T.says.fact 62)
theorem F_Line_take (T : Fx K mg base) : ∃ fd, FunD K d_Line_take.name d_Line_take.qual d_Line_take.params d_Line_take.body d_Line_take.scope [] [] (He.fAd K d_Line_take.at_) fd := T.says.def_ 15
theorem m_Line_take (T : Fx K mg base) : Meth K (He.ga K "Line") "take" (He.ma K (He.ga K "Line") "take") := He.meth_ok (T.says.fact 63)
theorem F_Line_close (T : Fx K mg base) : ∃ fd, FunD K d_Line_close.name d_Line_close.qual d_Line_close.params d_Line_close.body d_Line_close.scope [] [] (He.fAd K d_Line_close.at_) fd := T.says.def_ 16
theorem m_Line_close (T : Fx K mg base) : Meth K (He.ga K "Line") "close" (He.ma K (He.ga K "Line") "close") := He.meth_ok (T.says.fact 64)
theorem F_words_between (T : Fx K mg base) : ∃ fd, FunD K d_words_between.name d_words_between.qual d_words_between.params d_words_between.body d_words_between.scope [] [] (He.fAd K d_words_between.at_) fd := T.says.def_ 17
theorem g_words_between (T : Fx K mg base) : mg "words_between" = some (.ref (He.ga K "words_between")) := T.glo (T.says.fact 65)
theorem F_lines_of (T : Fx K mg base) : ∃ fd, FunD K d_lines_of.name d_lines_of.qual d_lines_of.params d_lines_of.body d_lines_of.scope [] [] (He.fAd K d_lines_of.at_) fd := T.says.def_ 18
theorem g_lines_of (T : Fx K mg base) : mg "lines_of" = some (.ref (He.ga K "lines_of")) := T.glo (T.says.fact 66)
theorem F_bytes_of (T : Fx K mg base) : ∃ fd, FunD K d_bytes_of.name d_bytes_of.qual d_bytes_of.params d_bytes_of.body d_bytes_of.scope [] [] (He.fAd K d_bytes_of.at_) fd := T.says.def_ 19
theorem g_bytes_of (T : Fx K mg base) : mg "bytes_of" = some (.ref (He.ga K "bytes_of")) := T.glo (T.says.fact 67)
theorem F_is_letter (T : Fx K mg base) : ∃ fd, FunD K d_is_letter.name d_is_letter.qual d_is_letter.params d_is_letter.body d_is_letter.scope [] [] (He.fAd K d_is_letter.at_) fd := T.says.def_ 20
theorem g_is_letter (T : Fx K mg base) : mg "is_letter" = some (.ref (He.ga K "is_letter")) := T.glo (T.says.fact 68)
theorem F_is_digit (T : Fx K mg base) : ∃ fd, FunD K d_is_digit.name d_is_digit.qual d_is_digit.params d_is_digit.body d_is_digit.scope [] [] (He.fAd K d_is_digit.at_) fd := T.says.def_ 21
theorem g_is_digit (T : Fx K mg base) : mg "is_digit" = some (.ref (He.ga K "is_digit")) := T.glo (T.says.fact 69)
theorem F_is_name (T : Fx K mg base) : ∃ fd, FunD K d_is_name.name d_is_name.qual d_is_name.params d_is_name.body d_is_name.scope [] [] (He.fAd K d_is_name.at_) fd := T.says.def_ 22
theorem g_is_name (T : Fx K mg base) : mg "is_name" = some (.ref (He.ga K "is_name")) := T.glo (T.says.fact 70)
theorem F_is_number (T : Fx K mg base) : ∃ fd, FunD K d_is_number.name d_is_number.qual d_is_number.params d_is_number.body d_is_number.scope [] [] (He.fAd K d_is_number.at_) fd := T.says.def_ 23
theorem g_is_number (T : Fx K mg base) : mg "is_number" = some (.ref (He.ga K "is_number")) := T.glo (T.says.fact 71)
theorem F_number_told (T : Fx K mg base) : ∃ fd, FunD K d_number_told.name d_number_told.qual d_number_told.params d_number_told.body d_number_told.scope [] [] (He.fAd K d_number_told.at_) fd := T.says.def_ 24
theorem g_number_told (T : Fx K mg base) : mg "number_told" = some (.ref (He.ga K "number_told")) := T.glo (T.says.fact 72)
theorem F_take_name (T : Fx K mg base) : ∃ fd, FunD K d_take_name.name d_take_name.qual d_take_name.params d_take_name.body d_take_name.scope [] [] (He.fAd K d_take_name.at_) fd := T.says.def_ 25
theorem g_take_name (T : Fx K mg base) : mg "take_name" = some (.ref (He.ga K "take_name")) := T.glo (T.says.fact 73)
theorem F_take_number (T : Fx K mg base) : ∃ fd, FunD K d_take_number.name d_take_number.qual d_take_number.params d_take_number.body d_take_number.scope [] [] (He.fAd K d_take_number.at_) fd := T.says.def_ 26
theorem g_take_number (T : Fx K mg base) : mg "take_number" = some (.ref (He.ga K "take_number")) := T.glo (T.says.fact 74)
theorem i_HIGHEST_K (T : Fx K mg base) : ∃ u, mg "HIGHEST_K" = some u ∧ RelV (.int 3) u := T.int (T.says.fact 75)
theorem i_HIGHEST_PLACE (T : Fx K mg base) : ∃ u, mg "HIGHEST_PLACE" = some u ∧ RelV (.int 7) u := T.int (T.says.fact 76)
theorem i_HIGHEST_BYTE (T : Fx K mg base) : ∃ u, mg "HIGHEST_BYTE" = some u ∧ RelV (.int 255) u := T.int (T.says.fact 77)
theorem i_LONGEST_TEXT (T : Fx K mg base) : ∃ u, mg "LONGEST_TEXT" = some u ∧ RelV (.int 4000) u := T.int (T.says.fact 78)
theorem i_MOST_PLAYED (T : Fx K mg base) : ∃ u, mg "MOST_PLAYED" = some u ∧ RelV (.int 30) u := T.int (T.says.fact 79)
theorem i_HIGHEST_PLAYED (T : Fx K mg base) : ∃ u, mg "HIGHEST_PLAYED" = some u ∧ RelV (.int 29) u := T.int (T.says.fact 80)
theorem i_FARTHEST_SHIFT (T : Fx K mg base) : ∃ u, mg "FARTHEST_SHIFT" = some u ∧ RelV (.int 100000) u := T.int (T.says.fact 81)
theorem F_need_between (T : Fx K mg base) : ∃ fd, FunD K d_need_between.name d_need_between.qual d_need_between.params d_need_between.body d_need_between.scope [] [] (He.fAd K d_need_between.at_) fd := T.says.def_ 27
theorem g_need_between (T : Fx K mg base) : mg "need_between" = some (.ref (He.ga K "need_between")) := T.glo (T.says.fact 82)
theorem F_need_row (T : Fx K mg base) : ∃ fd, FunD K d_need_row.name d_need_row.qual d_need_row.params d_need_row.body d_need_row.scope [] [] (He.fAd K d_need_row.at_) fd := T.says.def_ 28
theorem g_need_row (T : Fx K mg base) : mg "need_row" = some (.ref (He.ga K "need_row")) := T.glo (T.says.fact 83)
theorem F_need_text (T : Fx K mg base) : ∃ fd, FunD K d_need_text.name d_need_text.qual d_need_text.params d_need_text.body d_need_text.scope [] [] (He.fAd K d_need_text.at_) fd := T.says.def_ 29
theorem g_need_text (T : Fx K mg base) : mg "need_text" = some (.ref (He.ga K "need_text")) := T.glo (T.says.fact 84)
theorem F_need_name (T : Fx K mg base) : ∃ fd, FunD K d_need_name.name d_need_name.qual d_need_name.params d_need_name.body d_need_name.scope [] [] (He.fAd K d_need_name.at_) fd := T.says.def_ 30
theorem g_need_name (T : Fx K mg base) : mg "need_name" = some (.ref (He.ga K "need_name")) := T.glo (T.says.fact 85)
theorem F_need_played (T : Fx K mg base) : ∃ fd, FunD K d_need_played.name d_need_played.qual d_need_played.params d_need_played.body d_need_played.scope [] [] (He.fAd K d_need_played.at_) fd := T.says.def_ 31
theorem g_need_played (T : Fx K mg base) : mg "need_played" = some (.ref (He.ga K "need_played")) := T.glo (T.says.fact 86)
theorem F_need_shift (T : Fx K mg base) : ∃ fd, FunD K d_need_shift.name d_need_shift.qual d_need_shift.params d_need_shift.body d_need_shift.scope [] [] (He.fAd K d_need_shift.at_) fd := T.says.def_ 32
theorem g_need_shift (T : Fx K mg base) : mg "need_shift" = some (.ref (He.ga K "need_shift")) := T.glo (T.says.fact 87)
theorem F_need_k (T : Fx K mg base) : ∃ fd, FunD K d_need_k.name d_need_k.qual d_need_k.params d_need_k.body d_need_k.scope [] [] (He.fAd K d_need_k.at_) fd := T.says.def_ 33
theorem g_need_k (T : Fx K mg base) : mg "need_k" = some (.ref (He.ga K "need_k")) := T.glo (T.says.fact 88)
theorem F_need_minute (T : Fx K mg base) : ∃ fd, FunD K d_need_minute.name d_need_minute.qual d_need_minute.params d_need_minute.body d_need_minute.scope [] [] (He.fAd K d_need_minute.at_) fd := T.says.def_ 34
theorem g_need_minute (T : Fx K mg base) : mg "need_minute" = some (.ref (He.ga K "need_minute")) := T.glo (T.says.fact 89)
theorem F_need_places (T : Fx K mg base) : ∃ fd, FunD K d_need_places.name d_need_places.qual d_need_places.params d_need_places.body d_need_places.scope [] [] (He.fAd K d_need_places.at_) fd := T.says.def_ 35
theorem g_need_places (T : Fx K mg base) : mg "need_places" = some (.ref (He.ga K "need_places")) := T.glo (T.says.fact 90)
theorem i_NEVER (T : Fx K mg base) : ∃ u, mg "NEVER" = some u ∧ RelV (.int 1000000000) u := T.int (T.says.fact 91)
theorem g_Ways (T : Fx K mg base) : mg "Ways" = some (.ref (He.ga K "Ways")) := T.glo (T.says.fact 92)
theorem c_Ways (T : Fx K mg base) : Cls K (He.ga K "Ways") := He.cls_ok (T.says.fact 93)
theorem F_Ways_init (T : Fx K mg base) : ∃ fd, FunD K d_Ways_init.name d_Ways_init.qual d_Ways_init.params d_Ways_init.body d_Ways_init.scope [] [] (He.fAd K d_Ways_init.at_) fd := T.says.def_ 36
theorem m_Ways (T : Fx K mg base) : Mk K (He.ga K "Ways") (He.ma K (He.ga K "Ways") "__init__") := He.mkr_ok (T.says.fact 94)
theorem n_Ways_coming (T : Fx K mg base) : NoAttr K (He.ga K "Ways") "coming" := He.noat_ok (T.says.fact 95)
theorem n_Ways_ready (T : Fx K mg base) : NoAttr K (He.ga K "Ways") "ready" := He.noat_ok (T.says.fact 96)
theorem F_single_cars_table (T : Fx K mg base) : ∃ fd, FunD K d_single_cars_table.name d_single_cars_table.qual d_single_cars_table.params d_single_cars_table.body d_single_cars_table.scope [] [] (He.fAd K d_single_cars_table.at_) fd := T.says.def_ 37
theorem g_single_cars_table (T : Fx K mg base) : mg "single_cars_table" = some (.ref (He.ga K "single_cars_table")) := T.glo (T.says.fact 97)
theorem F_coming_table (T : Fx K mg base) : ∃ fd, FunD K d_coming_table.name d_coming_table.qual d_coming_table.params d_coming_table.body d_coming_table.scope [] [] (He.fAd K d_coming_table.at_) fd := T.says.def_ 38
theorem g_coming_table (T : Fx K mg base) : mg "coming_table" = some (.ref (He.ga K "coming_table")) := T.glo (T.says.fact 98)
theorem F_shorter_row (T : Fx K mg base) : ∃ fd, FunD K d_shorter_row.name d_shorter_row.qual d_shorter_row.params d_shorter_row.body d_shorter_row.scope [] [] (He.fAd K d_shorter_row.at_) fd := T.says.def_ 39
theorem g_shorter_row (T : Fx K mg base) : mg "shorter_row" = some (.ref (He.ga K "shorter_row")) := T.glo (T.says.fact 99)
theorem F_ready_table (T : Fx K mg base) : ∃ fd, FunD K d_ready_table.name d_ready_table.qual d_ready_table.params d_ready_table.body d_ready_table.scope [] [] (He.fAd K d_ready_table.at_) fd := T.says.def_ 40
theorem g_ready_table (T : Fx K mg base) : mg "ready_table" = some (.ref (He.ga K "ready_table")) := T.glo (T.says.fact 100)
theorem i_AT_GOAL (T : Fx K mg base) : ∃ u, mg "AT_GOAL" = some u ∧ RelV (.int 0) u := T.int (T.says.fact 101)
theorem i_BY_CAR (T : Fx K mg base) : ∃ u, mg "BY_CAR" = some u ∧ RelV (.int 1) u := T.int (T.says.fact 102)
theorem i_BY_DEPARTURE (T : Fx K mg base) : ∃ u, mg "BY_DEPARTURE" = some u ∧ RelV (.int 2) u := T.int (T.says.fact 103)
theorem g_Outlook (T : Fx K mg base) : mg "Outlook" = some (.ref (He.ga K "Outlook")) := T.glo (T.says.fact 104)
theorem c_Outlook (T : Fx K mg base) : Cls K (He.ga K "Outlook") := He.cls_ok (T.says.fact 105)
theorem F_Outlook_init (T : Fx K mg base) : ∃ fd, FunD K d_Outlook_init.name d_Outlook_init.qual d_Outlook_init.params d_Outlook_init.body d_Outlook_init.scope [] [] (He.fAd K d_Outlook_init.at_) fd := T.says.def_ 41
theorem m_Outlook (T : Fx K mg base) : Mk K (He.ga K "Outlook") (He.ma K (He.ga K "Outlook") "__init__") := He.mkr_ok (T.says.fact 106)
theorem n_Outlook_net (T : Fx K mg base) : NoAttr K (He.ga K "Outlook") "net" := He.noat_ok (T.says.fact 107)
theorem n_Outlook_ways (T : Fx K mg base) : NoAttr K (He.ga K "Outlook") "ways" := He.noat_ok (T.says.fact 108)
theorem n_Outlook_goal (T : Fx K mg base) : NoAttr K (He.ga K "Outlook") "goal" := He.noat_ok (T.says.fact 109)
theorem n_Outlook_worths (T : Fx K mg base) : NoAttr K (He.ga K "Outlook") "worths" := He.noat_ok (T.says.fact 110)
theorem g_Choice (T : Fx K mg base) : mg "Choice" = some (.ref (He.ga K "Choice")) := T.glo (T.says.fact 111)
theorem c_Choice (T : Fx K mg base) : Cls K (He.ga K "Choice") := He.cls_ok (T.says.fact 112)
theorem F_Choice_init (T : Fx K mg base) : ∃ fd, FunD K d_Choice_init.name d_Choice_init.qual d_Choice_init.params d_Choice_init.body d_Choice_init.scope [] [] (He.fAd K d_Choice_init.at_) fd := T.says.def_ 42
theorem m_Choice (T : Fx K mg base) : Mk K (He.ga K "Choice") (He.ma K (He.ga K "Choice") "__init__") := He.mkr_ok (T.says.fact 113)
theorem n_Choice_kind (T : Fx K mg base) : NoAttr K (He.ga K "Choice") "kind" := He.noat_ok (T.says.fact 114)
theorem n_Choice_number (T : Fx K mg base) : NoAttr K (He.ga K "Choice") "number" := He.noat_ok (T.says.fact 115)
theorem F_add_worths (T : Fx K mg base) : ∃ fd, FunD K d_add_worths.name d_add_worths.qual d_add_worths.params d_add_worths.body d_add_worths.scope [] [] (He.fAd K d_add_worths.at_) fd := T.says.def_ 43
theorem g_add_worths (T : Fx K mg base) : mg "add_worths" = some (.ref (He.ga K "add_worths")) := T.glo (T.says.fact 116)
theorem F_latest_first (T : Fx K mg base) : ∃ fd, FunD K d_latest_first.name d_latest_first.qual d_latest_first.params d_latest_first.body d_latest_first.scope [] [] (He.fAd K d_latest_first.at_) fd := T.says.def_ 44
theorem g_latest_first (T : Fx K mg base) : mg "latest_first" = some (.ref (He.ga K "latest_first")) := T.glo (T.says.fact 117)
theorem F_worth_of (T : Fx K mg base) : ∃ fd, FunD K d_worth_of.name d_worth_of.qual d_worth_of.params d_worth_of.body d_worth_of.scope [] [] (He.fAd K d_worth_of.at_) fd := T.says.def_ 45
theorem g_worth_of (T : Fx K mg base) : mg "worth_of" = some (.ref (He.ga K "worth_of")) := T.glo (T.says.fact 118)
theorem F_sure_if_it_goes (T : Fx K mg base) : ∃ fd, FunD K d_sure_if_it_goes.name d_sure_if_it_goes.qual d_sure_if_it_goes.params d_sure_if_it_goes.body d_sure_if_it_goes.scope [] [] (He.fAd K d_sure_if_it_goes.at_) fd := T.says.def_ 46
theorem g_sure_if_it_goes (T : Fx K mg base) : mg "sure_if_it_goes" = some (.ref (He.ga K "sure_if_it_goes")) := T.glo (T.says.fact 119)
theorem F_sure_if_cancelled (T : Fx K mg base) : ∃ fd, FunD K d_sure_if_cancelled.name d_sure_if_cancelled.qual d_sure_if_cancelled.params d_sure_if_cancelled.body d_sure_if_cancelled.scope [] [] (He.fAd K d_sure_if_cancelled.at_) fd := T.says.def_ 47
theorem g_sure_if_cancelled (T : Fx K mg base) : mg "sure_if_cancelled" = some (.ref (He.ga K "sure_if_cancelled")) := T.glo (T.says.fact 120)
theorem F_minute_there (T : Fx K mg base) : ∃ fd, FunD K d_minute_there.name d_minute_there.qual d_minute_there.params d_minute_there.body d_minute_there.scope [] [] (He.fAd K d_minute_there.at_) fd := T.says.def_ 48
theorem g_minute_there (T : Fx K mg base) : mg "minute_there" = some (.ref (He.ga K "minute_there")) := T.glo (T.says.fact 121)
theorem F_sure_from (T : Fx K mg base) : ∃ fd, FunD K d_sure_from.name d_sure_from.qual d_sure_from.params d_sure_from.body d_sure_from.scope [] [] (He.fAd K d_sure_from.at_) fd := T.says.def_ 49
theorem g_sure_from (T : Fx K mg base) : mg "sure_from" = some (.ref (He.ga K "sure_from")) := T.glo (T.says.fact 122)
theorem F_by_cars_alone (T : Fx K mg base) : ∃ fd, FunD K d_by_cars_alone.name d_by_cars_alone.qual d_by_cars_alone.params d_by_cars_alone.body d_by_cars_alone.scope [] [] (He.fAd K d_by_cars_alone.at_) fd := T.says.def_ 50
theorem g_by_cars_alone (T : Fx K mg base) : mg "by_cars_alone" = some (.ref (He.ga K "by_cars_alone")) := T.glo (T.says.fact 123)
theorem F_departures_in_time (T : Fx K mg base) : ∃ fd, FunD K d_departures_in_time.name d_departures_in_time.qual d_departures_in_time.params d_departures_in_time.body d_departures_in_time.scope [] [] (He.fAd K d_departures_in_time.at_) fd := T.says.def_ 51
theorem g_departures_in_time (T : Fx K mg base) : mg "departures_in_time" = some (.ref (He.ga K "departures_in_time")) := T.glo (T.says.fact 124)
theorem F_what_to_do (T : Fx K mg base) : ∃ fd, FunD K d_what_to_do.name d_what_to_do.qual d_what_to_do.params d_what_to_do.body d_what_to_do.scope [] [] (He.fAd K d_what_to_do.at_) fd := T.says.def_ 52
theorem g_what_to_do (T : Fx K mg base) : mg "what_to_do" = some (.ref (He.ga K "what_to_do")) := T.glo (T.says.fact 125)
theorem F_departure_to_take (T : Fx K mg base) : ∃ fd, FunD K d_departure_to_take.name d_departure_to_take.qual d_departure_to_take.params d_departure_to_take.body d_departure_to_take.scope [] [] (He.fAd K d_departure_to_take.at_) fd := T.says.def_ 53
theorem g_departure_to_take (T : Fx K mg base) : mg "departure_to_take" = some (.ref (He.ga K "departure_to_take")) := T.glo (T.says.fact 126)
theorem F_car_to_goal (T : Fx K mg base) : ∃ fd, FunD K d_car_to_goal.name d_car_to_goal.qual d_car_to_goal.params d_car_to_goal.body d_car_to_goal.scope [] [] (He.fAd K d_car_to_goal.at_) fd := T.says.def_ 54
theorem g_car_to_goal (T : Fx K mg base) : mg "car_to_goal" = some (.ref (He.ga K "car_to_goal")) := T.glo (T.says.fact 127)
theorem F_car_to_be_ready (T : Fx K mg base) : ∃ fd, FunD K d_car_to_be_ready.name d_car_to_be_ready.qual d_car_to_be_ready.params d_car_to_be_ready.body d_car_to_be_ready.scope [] [] (He.fAd K d_car_to_be_ready.at_) fd := T.says.def_ 55
theorem g_car_to_be_ready (T : Fx K mg base) : mg "car_to_be_ready" = some (.ref (He.ga K "car_to_be_ready")) := T.glo (T.says.fact 128)
theorem i_STEP_BY_CAR (T : Fx K mg base) : ∃ u, mg "STEP_BY_CAR" = some u ∧ RelV (.int 1) u := T.int (T.says.fact 129)
theorem i_STEP_BY_DEPARTURE (T : Fx K mg base) : ∃ u, mg "STEP_BY_DEPARTURE" = some u ∧ RelV (.int 2) u := T.int (T.says.fact 130)
theorem i_STEP_CANCELLED (T : Fx K mg base) : ∃ u, mg "STEP_CANCELLED" = some u ∧ RelV (.int 3) u := T.int (T.says.fact 131)
theorem i_NUMBERS_OF_A_STEP (T : Fx K mg base) : ∃ u, mg "NUMBERS_OF_A_STEP" = some u ∧ RelV (.int 3) u := T.int (T.says.fact 132)
theorem g_Traveller (T : Fx K mg base) : mg "Traveller" = some (.ref (He.ga K "Traveller")) := T.glo (T.says.fact 133)
theorem c_Traveller (T : Fx K mg base) : Cls K (He.ga K "Traveller") := He.cls_ok (T.says.fact 134)
theorem F_Traveller_init (T : Fx K mg base) : ∃ fd, FunD K d_Traveller_init.name d_Traveller_init.qual d_Traveller_init.params d_Traveller_init.body d_Traveller_init.scope [] [] (He.fAd K d_Traveller_init.at_) fd := T.says.def_ 56
theorem m_Traveller (T : Fx K mg base) : Mk K (He.ga K "Traveller") (He.ma K (He.ga K "Traveller") "__init__") := He.mkr_ok (T.says.fact 135)
theorem n_Traveller_k (T : Fx K mg base) : NoAttr K (He.ga K "Traveller") "k" := He.noat_ok (T.says.fact 136)
theorem n_Traveller_minute (T : Fx K mg base) : NoAttr K (He.ga K "Traveller") "minute" := He.noat_ok (T.says.fact 137)
theorem n_Traveller_place (T : Fx K mg base) : NoAttr K (He.ga K "Traveller") "place" := He.noat_ok (T.says.fact 138)
theorem n_Traveller_steps (T : Fx K mg base) : NoAttr K (He.ga K "Traveller") "steps" := He.noat_ok (T.says.fact 139)
theorem F_play_journey (T : Fx K mg base) : ∃ fd, FunD K d_play_journey.name d_play_journey.qual d_play_journey.params d_play_journey.body d_play_journey.scope [] [] (He.fAd K d_play_journey.at_) fd := T.says.def_ 57
theorem g_play_journey (T : Fx K mg base) : mg "play_journey" = some (.ref (He.ga K "play_journey")) := T.glo (T.says.fact 140)
theorem F_play_worst_case (T : Fx K mg base) : ∃ fd, FunD K d_play_worst_case.name d_play_worst_case.qual d_play_worst_case.params d_play_worst_case.body d_play_worst_case.scope [] [] (He.fAd K d_play_worst_case.at_) fd := T.says.def_ 58
theorem g_play_worst_case (T : Fx K mg base) : mg "play_worst_case" = some (.ref (He.ga K "play_worst_case")) := T.glo (T.says.fact 141)
theorem F_is_worse_cancelled (T : Fx K mg base) : ∃ fd, FunD K d_is_worse_cancelled.name d_is_worse_cancelled.qual d_is_worse_cancelled.params d_is_worse_cancelled.body d_is_worse_cancelled.scope [] [] (He.fAd K d_is_worse_cancelled.at_) fd := T.says.def_ 59
theorem g_is_worse_cancelled (T : Fx K mg base) : mg "is_worse_cancelled" = some (.ref (He.ga K "is_worse_cancelled")) := T.glo (T.says.fact 142)
theorem F_goes_on (T : Fx K mg base) : ∃ fd, FunD K d_goes_on.name d_goes_on.qual d_goes_on.params d_goes_on.body d_goes_on.scope [] [] (He.fAd K d_goes_on.at_) fd := T.says.def_ 60
theorem g_goes_on (T : Fx K mg base) : mg "goes_on" = some (.ref (He.ga K "goes_on")) := T.glo (T.says.fact 143)
theorem F_choice_of (T : Fx K mg base) : ∃ fd, FunD K d_choice_of.name d_choice_of.qual d_choice_of.params d_choice_of.body d_choice_of.scope [] [] (He.fAd K d_choice_of.at_) fd := T.says.def_ 61
theorem g_choice_of (T : Fx K mg base) : mg "choice_of" = some (.ref (He.ga K "choice_of")) := T.glo (T.says.fact 144)
theorem F_take_step (T : Fx K mg base) : ∃ fd, FunD K d_take_step.name d_take_step.qual d_take_step.params d_take_step.body d_take_step.scope [] [] (He.fAd K d_take_step.at_) fd := T.says.def_ 62
theorem g_take_step (T : Fx K mg base) : mg "take_step" = some (.ref (He.ga K "take_step")) := T.glo (T.says.fact 145)
theorem F_come_to (T : Fx K mg base) : ∃ fd, FunD K d_come_to.name d_come_to.qual d_come_to.params d_come_to.body d_come_to.scope [] [] (He.fAd K d_come_to.at_) fd := T.says.def_ 63
theorem g_come_to (T : Fx K mg base) : mg "come_to" = some (.ref (He.ga K "come_to")) := T.glo (T.says.fact 146)
theorem F_go_by_car (T : Fx K mg base) : ∃ fd, FunD K d_go_by_car.name d_go_by_car.qual d_go_by_car.params d_go_by_car.body d_go_by_car.scope [] [] (He.fAd K d_go_by_car.at_) fd := T.says.def_ 64
theorem g_go_by_car (T : Fx K mg base) : mg "go_by_car" = some (.ref (He.ga K "go_by_car")) := T.glo (T.says.fact 147)
theorem F_go_by_departure (T : Fx K mg base) : ∃ fd, FunD K d_go_by_departure.name d_go_by_departure.qual d_go_by_departure.params d_go_by_departure.body d_go_by_departure.scope [] [] (He.fAd K d_go_by_departure.at_) fd := T.says.def_ 65
theorem g_go_by_departure (T : Fx K mg base) : mg "go_by_departure" = some (.ref (He.ga K "go_by_departure")) := T.glo (T.says.fact 148)
theorem F_wait_in_vain (T : Fx K mg base) : ∃ fd, FunD K d_wait_in_vain.name d_wait_in_vain.qual d_wait_in_vain.params d_wait_in_vain.body d_wait_in_vain.scope [] [] (He.fAd K d_wait_in_vain.at_) fd := T.says.def_ 66
theorem g_wait_in_vain (T : Fx K mg base) : mg "wait_in_vain" = some (.ref (He.ga K "wait_in_vain")) := T.glo (T.says.fact 149)
theorem F_told_journey (T : Fx K mg base) : ∃ fd, FunD K d_told_journey.name d_told_journey.qual d_told_journey.params d_told_journey.body d_told_journey.scope [] [] (He.fAd K d_told_journey.at_) fd := T.says.def_ 67
theorem g_told_journey (T : Fx K mg base) : mg "told_journey" = some (.ref (He.ga K "told_journey")) := T.glo (T.says.fact 150)
theorem i_MOST_PLACES (T : Fx K mg base) : ∃ u, mg "MOST_PLACES" = some u ∧ RelV (.int 8) u := T.int (T.says.fact 151)
theorem i_MOST_CARS (T : Fx K mg base) : ∃ u, mg "MOST_CARS" = some u ∧ RelV (.int 16) u := T.int (T.says.fact 152)
theorem i_MOST_DEPARTURES (T : Fx K mg base) : ∃ u, mg "MOST_DEPARTURES" = some u ∧ RelV (.int 30) u := T.int (T.says.fact 153)
theorem i_MOST_HANDLING (T : Fx K mg base) : ∃ u, mg "MOST_HANDLING" = some u ∧ RelV (.int 1000) u := T.int (T.says.fact 154)
theorem i_LONGEST_CAR (T : Fx K mg base) : ∃ u, mg "LONGEST_CAR" = some u ∧ RelV (.int 10000) u := T.int (T.says.fact 155)
theorem i_OUT_OF_RANGE (T : Fx K mg base) : ∃ u, mg "OUT_OF_RANGE" = some u ∧ RelV (.int 3) u := T.int (T.says.fact 156)
theorem i_NAME_TAKEN (T : Fx K mg base) : ∃ u, mg "NAME_TAKEN" = some u ∧ RelV (.int 4) u := T.int (T.says.fact 157)
theorem i_NO_PLACE (T : Fx K mg base) : ∃ u, mg "NO_PLACE" = some u ∧ RelV (.int 5) u := T.int (T.says.fact 158)
theorem i_SAME_PLACE (T : Fx K mg base) : ∃ u, mg "SAME_PLACE" = some u ∧ RelV (.int 6) u := T.int (T.says.fact 159)
theorem i_NO_ROOM (T : Fx K mg base) : ∃ u, mg "NO_ROOM" = some u ∧ RelV (.int 7) u := T.int (T.says.fact 160)
theorem i_NOT_LATER (T : Fx K mg base) : ∃ u, mg "NOT_LATER" = some u ∧ RelV (.int 8) u := T.int (T.says.fact 161)
theorem F_read_behind (T : Fx K mg base) : ∃ fd, FunD K d_read_behind.name d_read_behind.qual d_read_behind.params d_read_behind.body d_read_behind.scope [] [] (He.fAd K d_read_behind.at_) fd := T.says.def_ 68
theorem g_read_behind (T : Fx K mg base) : mg "read_behind" = some (.ref (He.ga K "read_behind")) := T.glo (T.says.fact 162)
theorem F_read_line (T : Fx K mg base) : ∃ fd, FunD K d_read_line.name d_read_line.qual d_read_line.params d_read_line.body d_read_line.scope [] [] (He.fAd K d_read_line.at_) fd := T.says.def_ 69
theorem g_read_line (T : Fx K mg base) : mg "read_line" = some (.ref (He.ga K "read_line")) := T.glo (T.says.fact 163)
theorem F_need_room (T : Fx K mg base) : ∃ fd, FunD K d_need_room.name d_need_room.qual d_need_room.params d_need_room.body d_need_room.scope [] [] (He.fAd K d_need_room.at_) fd := T.says.def_ 70
theorem g_need_room (T : Fx K mg base) : mg "need_room" = some (.ref (He.ga K "need_room")) := T.glo (T.says.fact 164)
theorem F_read_place (T : Fx K mg base) : ∃ fd, FunD K d_read_place.name d_read_place.qual d_read_place.params d_read_place.body d_read_place.scope [] [] (He.fAd K d_read_place.at_) fd := T.says.def_ 71
theorem g_read_place (T : Fx K mg base) : mg "read_place" = some (.ref (He.ga K "read_place")) := T.glo (T.says.fact 165)
theorem F_read_car (T : Fx K mg base) : ∃ fd, FunD K d_read_car.name d_read_car.qual d_read_car.params d_read_car.body d_read_car.scope [] [] (He.fAd K d_read_car.at_) fd := T.says.def_ 72
theorem g_read_car (T : Fx K mg base) : mg "read_car" = some (.ref (He.ga K "read_car")) := T.glo (T.says.fact 166)
theorem F_read_departure (T : Fx K mg base) : ∃ fd, FunD K d_read_departure.name d_read_departure.qual d_read_departure.params d_read_departure.body d_read_departure.scope [] [] (He.fAd K d_read_departure.at_) fd := T.says.def_ 73
theorem g_read_departure (T : Fx K mg base) : mg "read_departure" = some (.ref (He.ga K "read_departure")) := T.glo (T.says.fact 167)
theorem F_take_new_name (T : Fx K mg base) : ∃ fd, FunD K d_take_new_name.name d_take_new_name.qual d_take_new_name.params d_take_new_name.body d_take_new_name.scope [] [] (He.fAd K d_take_new_name.at_) fd := T.says.def_ 74
theorem g_take_new_name (T : Fx K mg base) : mg "take_new_name" = some (.ref (He.ga K "take_new_name")) := T.glo (T.says.fact 168)
theorem F_place_of_word (T : Fx K mg base) : ∃ fd, FunD K d_place_of_word.name d_place_of_word.qual d_place_of_word.params d_place_of_word.body d_place_of_word.scope [] [] (He.fAd K d_place_of_word.at_) fd := T.says.def_ 75
theorem g_place_of_word (T : Fx K mg base) : mg "place_of_word" = some (.ref (He.ga K "place_of_word")) := T.glo (T.says.fact 169)
theorem F_take_place (T : Fx K mg base) : ∃ fd, FunD K d_take_place.name d_take_place.qual d_take_place.params d_take_place.body d_take_place.scope [] [] (He.fAd K d_take_place.at_) fd := T.says.def_ 76
theorem g_take_place (T : Fx K mg base) : mg "take_place" = some (.ref (He.ga K "take_place")) := T.glo (T.says.fact 170)
theorem F_take_other_place (T : Fx K mg base) : ∃ fd, FunD K d_take_other_place.name d_take_other_place.qual d_take_other_place.params d_take_other_place.body d_take_other_place.scope [] [] (He.fAd K d_take_other_place.at_) fd := T.says.def_ 77
theorem g_take_other_place (T : Fx K mg base) : mg "take_other_place" = some (.ref (He.ga K "take_other_place")) := T.glo (T.says.fact 171)
theorem F_number_between (T : Fx K mg base) : ∃ fd, FunD K d_number_between.name d_number_between.qual d_number_between.params d_number_between.body d_number_between.scope [] [] (He.fAd K d_number_between.at_) fd := T.says.def_ 78
theorem g_number_between (T : Fx K mg base) : mg "number_between" = some (.ref (He.ga K "number_between")) := T.glo (T.says.fact 172)
theorem F_take_number_between (T : Fx K mg base) : ∃ fd, FunD K d_take_number_between.name d_take_number_between.qual d_take_number_between.params d_take_number_between.body d_take_number_between.scope [] [] (He.fAd K d_take_number_between.at_) fd := T.says.def_ 79
theorem g_take_number_between (T : Fx K mg base) : mg "take_number_between" = some (.ref (He.ga K "take_number_between")) := T.glo (T.says.fact 173)
theorem F_take_later_minute (T : Fx K mg base) : ∃ fd, FunD K d_take_later_minute.name d_take_later_minute.qual d_take_later_minute.params d_take_later_minute.body d_take_later_minute.scope [] [] (He.fAd K d_take_later_minute.at_) fd := T.says.def_ 80
theorem g_take_later_minute (T : Fx K mg base) : mg "take_later_minute" = some (.ref (He.ga K "take_later_minute")) := T.glo (T.says.fact 174)
theorem F_written_line (T : Fx K mg base) : ∃ fd, FunD K d_written_line.name d_written_line.qual d_written_line.params d_written_line.body d_written_line.scope [] [] (He.fAd K d_written_line.at_) fd := T.says.def_ 81
theorem g_written_line (T : Fx K mg base) : mg "written_line" = some (.ref (He.ga K "written_line")) := T.glo (T.says.fact 175)
theorem F_written_number (T : Fx K mg base) : ∃ fd, FunD K d_written_number.name d_written_number.qual d_written_number.params d_written_number.body d_written_number.scope [] [] (He.fAd K d_written_number.at_) fd := T.says.def_ 82
theorem g_written_number (T : Fx K mg base) : mg "written_number" = some (.ref (He.ga K "written_number")) := T.glo (T.says.fact 176)
theorem F_written_place (T : Fx K mg base) : ∃ fd, FunD K d_written_place.name d_written_place.qual d_written_place.params d_written_place.body d_written_place.scope [] [] (He.fAd K d_written_place.at_) fd := T.says.def_ 83
theorem g_written_place (T : Fx K mg base) : mg "written_place" = some (.ref (He.ga K "written_place")) := T.glo (T.says.fact 177)
theorem F_written_car (T : Fx K mg base) : ∃ fd, FunD K d_written_car.name d_written_car.qual d_written_car.params d_written_car.body d_written_car.scope [] [] (He.fAd K d_written_car.at_) fd := T.says.def_ 84
theorem g_written_car (T : Fx K mg base) : mg "written_car" = some (.ref (He.ga K "written_car")) := T.glo (T.says.fact 178)
theorem F_written_departure (T : Fx K mg base) : ∃ fd, FunD K d_written_departure.name d_written_departure.qual d_written_departure.params d_written_departure.body d_written_departure.scope [] [] (He.fAd K d_written_departure.at_) fd := T.says.def_ 85
theorem g_written_departure (T : Fx K mg base) : mg "written_departure" = some (.ref (He.ga K "written_departure")) := T.glo (T.says.fact 179)
theorem F_written_net (T : Fx K mg base) : ∃ fd, FunD K d_written_net.name d_written_net.qual d_written_net.params d_written_net.body d_written_net.scope [] [] (He.fAd K d_written_net.at_) fd := T.says.def_ 86
theorem g_written_net (T : Fx K mg base) : mg "written_net" = some (.ref (He.ga K "written_net")) := T.glo (T.says.fact 180)
theorem F_minutes_just_in_time (T : Fx K mg base) : ∃ fd, FunD K d_minutes_just_in_time.name d_minutes_just_in_time.qual d_minutes_just_in_time.params d_minutes_just_in_time.body d_minutes_just_in_time.scope [] [] (He.fAd K d_minutes_just_in_time.at_) fd := T.says.def_ 87
theorem g_minutes_just_in_time (T : Fx K mg base) : mg "minutes_just_in_time" = some (.ref (He.ga K "minutes_just_in_time")) := T.glo (T.says.fact 181)
theorem F_last_start (T : Fx K mg base) : ∃ fd, FunD K d_last_start.name d_last_start.qual d_last_start.params d_last_start.body d_last_start.scope [] [] (He.fAd K d_last_start.at_) fd := T.says.def_ 88
theorem g_last_start (T : Fx K mg base) : mg "last_start" = some (.ref (He.ga K "last_start")) := T.glo (T.says.fact 182)
theorem F_profile_minutes (T : Fx K mg base) : ∃ fd, FunD K d_profile_minutes.name d_profile_minutes.qual d_profile_minutes.params d_profile_minutes.body d_profile_minutes.scope [] [] (He.fAd K d_profile_minutes.at_) fd := T.says.def_ 89
theorem g_profile_minutes (T : Fx K mg base) : mg "profile_minutes" = some (.ref (He.ga K "profile_minutes")) := T.glo (T.says.fact 183)
theorem F_is_worth_telling (T : Fx K mg base) : ∃ fd, FunD K d_is_worth_telling.name d_is_worth_telling.qual d_is_worth_telling.params d_is_worth_telling.body d_is_worth_telling.scope [] [] (He.fAd K d_is_worth_telling.at_) fd := T.says.def_ 90
theorem g_is_worth_telling (T : Fx K mg base) : mg "is_worth_telling" = some (.ref (He.ga K "is_worth_telling")) := T.glo (T.says.fact 184)
theorem g_Session (T : Fx K mg base) : mg "Session" = some (.ref (He.ga K "Session")) := T.glo (T.says.fact 185)
theorem c_Session (T : Fx K mg base) : Cls K (He.ga K "Session") := He.cls_ok (T.says.fact 186)
theorem F_Session_init (T : Fx K mg base) : ∃ fd, FunD K d_Session_init.name d_Session_init.qual d_Session_init.params d_Session_init.body d_Session_init.scope [] [] (He.fAd K d_Session_init.at_) fd := T.says.def_ 91
theorem m_Session (T : Fx K mg base) : Mk K (He.ga K "Session") (He.ma K (He.ga K "Session") "__init__") := He.mkr_ok (T.says.fact 187)
theorem n_Session_net (T : Fx K mg base) : NoAttr K (He.ga K "Session") "net" := He.noat_ok (T.says.fact 188)
theorem g_Call (T : Fx K mg base) : mg "Call" = some (.ref (He.ga K "Call")) := T.glo (T.says.fact 189)
theorem c_Call (T : Fx K mg base) : Cls K (He.ga K "Call") := He.cls_ok (T.says.fact 190)
theorem F_Call_init (T : Fx K mg base) : ∃ fd, FunD K d_Call_init.name d_Call_init.qual d_Call_init.params d_Call_init.body d_Call_init.scope [] [] (He.fAd K d_Call_init.at_) fd := T.says.def_ 92
theorem m_Call (T : Fx K mg base) : Mk K (He.ga K "Call") (He.ma K (He.ga K "Call") "__init__") := He.mkr_ok (T.says.fact 191)
theorem n_Call_kind (T : Fx K mg base) : NoAttr K (He.ga K "Call") "kind" := He.noat_ok (T.says.fact 192)
theorem n_Call_numbers (T : Fx K mg base) : NoAttr K (He.ga K "Call") "numbers" := He.noat_ok (T.says.fact 193)
theorem n_Call_rows (T : Fx K mg base) : NoAttr K (He.ga K "Call") "rows" := He.noat_ok (T.says.fact 194)
theorem n_Call_behind (T : Fx K mg base) : NoAttr K (He.ga K "Call") "behind" := He.noat_ok (T.says.fact 195)
theorem F_sizes_of (T : Fx K mg base) : ∃ fd, FunD K d_sizes_of.name d_sizes_of.qual d_sizes_of.params d_sizes_of.body d_sizes_of.scope [] [] (He.fAd K d_sizes_of.at_) fd := T.says.def_ 93
theorem g_sizes_of (T : Fx K mg base) : mg "sizes_of" = some (.ref (He.ga K "sizes_of")) := T.glo (T.says.fact 196)
theorem F_call_net (T : Fx K mg base) : ∃ fd, FunD K d_call_net.name d_call_net.qual d_call_net.params d_call_net.body d_call_net.scope [] [] (He.fAd K d_call_net.at_) fd := T.says.def_ 94
theorem g_call_net (T : Fx K mg base) : mg "call_net" = some (.ref (He.ga K "call_net")) := T.glo (T.says.fact 197)
theorem F_call_add (T : Fx K mg base) : ∃ fd, FunD K d_call_add.name d_call_add.qual d_call_add.params d_call_add.body d_call_add.scope [] [] (He.fAd K d_call_add.at_) fd := T.says.def_ 95
theorem g_call_add (T : Fx K mg base) : mg "call_add" = some (.ref (He.ga K "call_add")) := T.glo (T.says.fact 198)
theorem F_call_text (T : Fx K mg base) : ∃ fd, FunD K d_call_text.name d_call_text.qual d_call_text.params d_call_text.body d_call_text.scope [] [] (He.fAd K d_call_text.at_) fd := T.says.def_ 96
theorem g_call_text (T : Fx K mg base) : mg "call_text" = some (.ref (He.ga K "call_text")) := T.glo (T.says.fact 199)
theorem F_call_without (T : Fx K mg base) : ∃ fd, FunD K d_call_without.name d_call_without.qual d_call_without.params d_call_without.body d_call_without.scope [] [] (He.fAd K d_call_without.at_) fd := T.says.def_ 97
theorem g_call_without (T : Fx K mg base) : mg "call_without" = some (.ref (He.ga K "call_without")) := T.glo (T.says.fact 200)
theorem F_call_shift (T : Fx K mg base) : ∃ fd, FunD K d_call_shift.name d_call_shift.qual d_call_shift.params d_call_shift.body d_call_shift.scope [] [] (He.fAd K d_call_shift.at_) fd := T.says.def_ 98
theorem g_call_shift (T : Fx K mg base) : mg "call_shift" = some (.ref (He.ga K "call_shift")) := T.glo (T.says.fact 201)
theorem F_need_start (T : Fx K mg base) : ∃ fd, FunD K d_need_start.name d_need_start.qual d_need_start.params d_need_start.body d_need_start.scope [] [] (He.fAd K d_need_start.at_) fd := T.says.def_ 99
theorem g_need_start (T : Fx K mg base) : mg "need_start" = some (.ref (He.ga K "need_start")) := T.glo (T.says.fact 202)
theorem F_outlook_to (T : Fx K mg base) : ∃ fd, FunD K d_outlook_to.name d_outlook_to.qual d_outlook_to.params d_outlook_to.body d_outlook_to.scope [] [] (He.fAd K d_outlook_to.at_) fd := T.says.def_ 100
theorem g_outlook_to (T : Fx K mg base) : mg "outlook_to" = some (.ref (He.ga K "outlook_to")) := T.glo (T.says.fact 203)
theorem F_outlook_of (T : Fx K mg base) : ∃ fd, FunD K d_outlook_of.name d_outlook_of.qual d_outlook_of.params d_outlook_of.body d_outlook_of.scope [] [] (He.fAd K d_outlook_of.at_) fd := T.says.def_ 101
theorem g_outlook_of (T : Fx K mg base) : mg "outlook_of" = some (.ref (He.ga K "outlook_of")) := T.glo (T.says.fact 204)
theorem F_need_some (T : Fx K mg base) : ∃ fd, FunD K d_need_some.name d_need_some.qual d_need_some.params d_need_some.body d_need_some.scope [] [] (He.fAd K d_need_some.at_) fd := T.says.def_ 102
theorem g_need_some (T : Fx K mg base) : mg "need_some" = some (.ref (He.ga K "need_some")) := T.glo (T.says.fact 205)
theorem F_call_sure (T : Fx K mg base) : ∃ fd, FunD K d_call_sure.name d_call_sure.qual d_call_sure.params d_call_sure.body d_call_sure.scope [] [] (He.fAd K d_call_sure.at_) fd := T.says.def_ 103
theorem g_call_sure (T : Fx K mg base) : mg "call_sure" = some (.ref (He.ga K "call_sure")) := T.glo (T.says.fact 206)
theorem F_sure_to_each (T : Fx K mg base) : ∃ fd, FunD K d_sure_to_each.name d_sure_to_each.qual d_sure_to_each.params d_sure_to_each.body d_sure_to_each.scope [] [] (He.fAd K d_sure_to_each.at_) fd := T.says.def_ 104
theorem g_sure_to_each (T : Fx K mg base) : mg "sure_to_each" = some (.ref (He.ga K "sure_to_each")) := T.glo (T.says.fact 207)
theorem F_told_minutes (T : Fx K mg base) : ∃ fd, FunD K d_told_minutes.name d_told_minutes.qual d_told_minutes.params d_told_minutes.body d_told_minutes.scope [] [] (He.fAd K d_told_minutes.at_) fd := T.says.def_ 105
theorem g_told_minutes (T : Fx K mg base) : mg "told_minutes" = some (.ref (He.ga K "told_minutes")) := T.glo (T.says.fact 208)
theorem F_call_table (T : Fx K mg base) : ∃ fd, FunD K d_call_table.name d_call_table.qual d_call_table.params d_call_table.body d_call_table.scope [] [] (He.fAd K d_call_table.at_) fd := T.says.def_ 106
theorem g_call_table (T : Fx K mg base) : mg "call_table" = some (.ref (He.ga K "call_table")) := T.glo (T.says.fact 209)
theorem F_call_next (T : Fx K mg base) : ∃ fd, FunD K d_call_next.name d_call_next.qual d_call_next.params d_call_next.body d_call_next.scope [] [] (He.fAd K d_call_next.at_) fd := T.says.def_ 107
theorem g_call_next (T : Fx K mg base) : mg "call_next" = some (.ref (He.ga K "call_next")) := T.glo (T.says.fact 210)
theorem F_call_play (T : Fx K mg base) : ∃ fd, FunD K d_call_play.name d_call_play.qual d_call_play.params d_call_play.body d_call_play.scope [] [] (He.fAd K d_call_play.at_) fd := T.says.def_ 108
theorem g_call_play (T : Fx K mg base) : mg "call_play" = some (.ref (He.ga K "call_play")) := T.glo (T.says.fact 211)
theorem F_call_last (T : Fx K mg base) : ∃ fd, FunD K d_call_last.name d_call_last.qual d_call_last.params d_call_last.body d_call_last.scope [] [] (He.fAd K d_call_last.at_) fd := T.says.def_ 109
theorem g_call_last (T : Fx K mg base) : mg "call_last" = some (.ref (He.ga K "call_last")) := T.glo (T.says.fact 212)
theorem F_call_profile (T : Fx K mg base) : ∃ fd, FunD K d_call_profile.name d_call_profile.qual d_call_profile.params d_call_profile.body d_call_profile.scope [] [] (He.fAd K d_call_profile.at_) fd := T.says.def_ 110
theorem g_call_profile (T : Fx K mg base) : mg "call_profile" = some (.ref (He.ga K "call_profile")) := T.glo (T.says.fact 213)
theorem F_call_worst (T : Fx K mg base) : ∃ fd, FunD K d_call_worst.name d_call_worst.qual d_call_worst.params d_call_worst.body d_call_worst.scope [] [] (He.fAd K d_call_worst.at_) fd := T.says.def_ 111
theorem g_call_worst (T : Fx K mg base) : mg "call_worst" = some (.ref (He.ga K "call_worst")) := T.glo (T.says.fact 214)
theorem F_call_cars (T : Fx K mg base) : ∃ fd, FunD K d_call_cars.name d_call_cars.qual d_call_cars.params d_call_cars.body d_call_cars.scope [] [] (He.fAd K d_call_cars.at_) fd := T.says.def_ 112
theorem g_call_cars (T : Fx K mg base) : mg "call_cars" = some (.ref (He.ga K "call_cars")) := T.glo (T.says.fact 215)
theorem F_call_who (T : Fx K mg base) : ∃ fd, FunD K d_call_who.name d_call_who.qual d_call_who.params d_call_who.body d_call_who.scope [] [] (He.fAd K d_call_who.at_) fd := T.says.def_ 113
theorem g_call_who (T : Fx K mg base) : mg "call_who" = some (.ref (He.ga K "call_who")) := T.glo (T.says.fact 216)
theorem F_call_stands (T : Fx K mg base) : ∃ fd, FunD K d_call_stands.name d_call_stands.qual d_call_stands.params d_call_stands.body d_call_stands.scope [] [] (He.fAd K d_call_stands.at_) fd := T.says.def_ 114
theorem g_call_stands (T : Fx K mg base) : mg "call_stands" = some (.ref (He.ga K "call_stands")) := T.glo (T.says.fact 217)
theorem F_call_state (T : Fx K mg base) : ∃ fd, FunD K d_call_state.name d_call_state.qual d_call_state.params d_call_state.body d_call_state.scope [] [] (He.fAd K d_call_state.at_) fd := T.says.def_ 115
theorem g_call_state (T : Fx K mg base) : mg "call_state" = some (.ref (He.ga K "call_state")) := T.glo (T.says.fact 218)
theorem F_call_find (T : Fx K mg base) : ∃ fd, FunD K d_call_find.name d_call_find.qual d_call_find.params d_call_find.body d_call_find.scope [] [] (He.fAd K d_call_find.at_) fd := T.says.def_ 116
theorem g_call_find (T : Fx K mg base) : mg "call_find" = some (.ref (He.ga K "call_find")) := T.glo (T.says.fact 219)
theorem F_call_worths (T : Fx K mg base) : ∃ fd, FunD K d_call_worths.name d_call_worths.qual d_call_worths.params d_call_worths.body d_call_worths.scope [] [] (He.fAd K d_call_worths.at_) fd := T.says.def_ 117
theorem g_call_worths (T : Fx K mg base) : mg "call_worths" = some (.ref (He.ga K "call_worths")) := T.glo (T.says.fact 220)
theorem g_SHAPES (T : Fx K mg base) : mg "SHAPES" = some (.ref (He.ga K "SHAPES")) := T.glo (T.says.fact 221)
theorem g_HANDLERS (T : Fx K mg base) : mg "HANDLERS" = some (.ref (He.ga K "HANDLERS")) := T.glo (T.says.fact 222)
theorem F_call_at (T : Fx K mg base) : ∃ fd, FunD K d_call_at.name d_call_at.qual d_call_at.params d_call_at.body d_call_at.scope [] [] (He.fAd K d_call_at.at_) fd := T.says.def_ 118
theorem g_call_at (T : Fx K mg base) : mg "call_at" = some (.ref (He.ga K "call_at")) := T.glo (T.says.fact 223)
theorem F_answer_of (T : Fx K mg base) : ∃ fd, FunD K d_answer_of.name d_answer_of.qual d_answer_of.params d_answer_of.body d_answer_of.scope [] [] (He.fAd K d_answer_of.at_) fd := T.says.def_ 119
theorem g_answer_of (T : Fx K mg base) : mg "answer_of" = some (.ref (He.ga K "answer_of")) := T.glo (T.says.fact 224)
theorem F_answers (T : Fx K mg base) : ∃ fd, FunD K d_answers.name d_answers.qual d_answers.params d_answers.body d_answers.scope [] [] (He.fAd K d_answers.at_) fd := T.says.def_ 120
theorem g_answers (T : Fx K mg base) : mg "answers" = some (.ref (He.ga K "answers")) := T.glo (T.says.fact 225)
theorem b_len (T : Fx K mg base) : mg "len" = none := T.free (T.says.fact 226)
theorem b_range (T : Fx K mg base) : mg "range" = none := T.free (T.says.fact 227)
theorem b_enumerate (T : Fx K mg base) : mg "enumerate" = none := T.free (T.says.fact 228)
theorem b_zip (T : Fx K mg base) : mg "zip" = none := T.free (T.says.fact 229)
theorem b_min (T : Fx K mg base) : mg "min" = none := T.free (T.says.fact 230)
theorem b_max (T : Fx K mg base) : mg "max" = none := T.free (T.says.fact 231)
theorem b_all (T : Fx K mg base) : mg "all" = none := T.free (T.says.fact 232)
theorem b_sorted (T : Fx K mg base) : mg "sorted" = none := T.free (T.says.fact 233)
theorem b_ord (T : Fx K mg base) : mg "ord" = none := T.free (T.says.fact 234)
theorem b_str (T : Fx K mg base) : mg "str" = none := T.free (T.says.fact 235)
theorem b_list (T : Fx K mg base) : mg "list" = none := T.free (T.says.fact 236)
theorem b_set (T : Fx K mg base) : mg "set" = none := T.free (T.says.fact 237)
end
end SJ
end
section
set_option Elab.async false
set_option linter.all false
set_option maxRecDepth 100000
set_option maxHeartbeats 4000000
namespace SJ
open PySem PySem.Spec PyProof.Rows L2
/-! ## own errors over Exception, made without arguments -/
/-- what a raise of the class named x leans on -/
structure Exc0 (K : PySem.W.Frag) (mg : Str → Option Value) (x : Str) : Prop where
  g : mg x = some (.ref (He.ga K x))
  isExc : PySem.W.excIn K (He.ga K x) excB "Exception.__new__" = true
  kp : PySem.W.keepIn K (.ref (He.ga K x)) = true
  sub : PySem.W.subIn K (.ref (He.ga K x)) (.type "BaseException") = some true
  typ : PySem.W.typeIn K (.ref (He.ga K x)) = some (.type "type")
theorem Fx.exc {K : PySem.W.Frag} {mg : Str → Option Value} {base : Heap} (T : Fx K mg base) {x : Str} (hx : exc0s.contains x = true) (g : mg x = some (.ref (He.ga K x))) : Exc0 K mg x := by
  have h : excOk K x = true := List.all_eq_true.mp (Bool.and_eq_true_iff.mp T.more).1 x (List.contains_iff_mem.mp hx)
  unfold excOk at h
  rw [Bool.and_eq_true, Bool.and_eq_true, Bool.and_eq_true] at h
  exact ⟨g, h.1, h.2.1, of_decide_eq_true h.2.2.1, of_decide_eq_true h.2.2.2⟩
section
variable {X : Cx}
theorem pmk_own0 {x : Str} {p pos : Pos} (T : Exc0 X.K X.mg x) (hg : Gl X x) (hdb : (x == ("__debug__" : Str)) = false := by decide) :
    PMk X (.Call (.Name x p) [] [] pos) (fun _ H Q => Q (.ref (He.ga X.K x)) none H) := by
  intro pins s σ H Q I h
  refine wpAny_Call_Name_kw (ld_glob I hg T.g ?_ hdb)
  refine PySem.W.callWith_K0 I.kIn T.kp ?_
  obtain ⟨bm, N, nm, qn, bs, hdct, sn, sub, ab, col, dd, k0, k1, k2, k3, k5, mN, hC, hN, hni, T2⟩ := exc_obj I.kIn T.isExc
  exact wpAny_call_exc_subT PySem.F.excBase_Exception T2 hC hN hni (fun h' e hm => mk_of I hm (raises_own T.sub T.typ) h (I.hok.gone hm.new)) (Nat.zero_le _)
/-- raise X() -/
theorem ps_raise0 {x : Str} {W : WX} {p pos pos2 : Pos} (hc : X.calm = true) (T : Exc0 X.K X.mg x) (tk : Takes X W) (hg : Gl X x) (hdb : (x == ("__debug__" : Str)) = false := by decide) :
    PS X (.Raise (some (.Call (.Name x p) [] [] pos)) none pos2) (fun _ σ H => W (.ref (He.ga X.K x)) none σ H) := ps_raise hc tk (pmk_own0 T hg hdb)
end
/-! ## defs by name -/
section
variable (P : Program) (w : World) (K : PySem.W.Frag) (mg : Str → Option Value) (base : Heap)
/-- the def named x keeps the promise sp, at most k calls deep; it may raise -/
structure FnX (k : Nat) (x : Str) (sp : Sp) : Prop where
  ex : ∃ (f : Addr) (fd : FuncData) (ps : List Str), FnOk P w K mg base (L2.CX P w) k f fd ps sp ∧ mg x = some (.ref f) ∧ PySem.W.keepIn K (.ref f) = true ∧ Binds K fd ps []
/-- .. and raises nothing -/
structure Fn0 (k : Nat) (x : Str) (sp : Sp) : Prop where
  ex : ∃ (f : Addr) (fd : FuncData) (ps : List Str), FnOk P w K mg base CX0 k f fd ps sp ∧ mg x = some (.ref f) ∧ PySem.W.keepIn K (.ref f) = true ∧ Binds K fd ps []
/-- the __init__ of the class named x -/
structure Mk0 (k : Nat) (x : Str) (sp : Sp) : Prop where
  ex : ∃ (f : Addr) (fd : FuncData) (ps : List Str), Mk K (He.ga K x) f ∧ FnOk P w K mg base CX0 k f fd ps sp ∧ mg x = some (.ref (He.ga K x)) ∧ Binds K fd ps []
end
section
variable {X : Cx} {k j : Nat} {x : Str} {sp : Sp} {W : WX} {e : Expr} {es : List Expr} {p pos : Pos} {t : TA}
theorem pe_cx (c : FnX X.prog X.w X.K X.mg X.base k x sp) (hr : Room j X.A) (hk : k ≤ j) (hg : Gl X x) (tk : Takes X W) (ha : PA X (e :: es) t) (hdb : (x == ("__debug__" : Str)) = false := by decide)
    (he : starEach (e :: es) X.env = (false, eval e X.env) :: starEach es X.env := by rfl) (hpl : (backTo pos (starEach es X.env)).any (·.1) = false := by rfl) :
    PE X (.Call (.Name x p) (e :: es) [] pos) (tCallS sp (WE W) t) := by
  obtain ⟨f, fd, ps, F, hm, kp, hb⟩ := c.ex
  exact pe_callS F (hr.mono hk) hg hm kp hb (fun σ => passAt tk σ) ha hdb he hpl
theorem pe_c0 (c : Fn0 X.prog X.w X.K X.mg X.base k x sp) (hr : Room j X.A) (hk : k ≤ j) (hg : Gl X x) (ha : PA X (e :: es) t) (hdb : (x == ("__debug__" : Str)) = false := by decide)
    (he : starEach (e :: es) X.env = (false, eval e X.env) :: starEach es X.env := by rfl) (hpl : (backTo pos (starEach es X.env)).any (·.1) = false := by rfl) :
    PE X (.Call (.Name x p) (e :: es) [] pos) (tCall sp [] E0 t) := by
  obtain ⟨f, fd, ps, F, hm, kp, hb⟩ := c.ex
  exact pe_call F (hr.mono hk) hg hm kp hb .nil pass0 ha hdb he hpl
theorem pe_k0 (c : Mk0 X.prog X.w X.K X.mg X.base k x sp) (hr : Room j X.A) (hk : k + 1 ≤ j) (hg : Gl X x) (ha : PA X (e :: es) t) (hdb : (x == ("__debug__" : Str)) = false := by decide)
    (he : starEach (e :: es) X.env = (false, eval e X.env) :: starEach es X.env := by rfl) (hpl : (backTo pos (starEach es X.env)).any (·.1) = false := by rfl) :
    PE X (.Call (.Name x p) (e :: es) [] pos) (tMake (He.ga X.K x) sp [] E0 t) := by
  obtain ⟨f, fd, ps, M, F, hm, hb⟩ := c.ex
  exact pe_make M F (hr.mono hk) hg hm hb .nil pass0 ha hdb he hpl
end
/-- an if whose test is known -/
theorem ifT {c : Bool} {A B : Prop} (hc : c = true) (h : A) : if c = true then A else B := by
  rw [if_pos hc]
  exact h
theorem ifF {c : Bool} {A B : Prop} (hc : c = false) (h : B) : if c = true then A else B := by
  rw [hc, if_neg Bool.false_ne_true]
  exact h
end SJ
end
section
set_option Elab.async false
set_option linter.all false
set_option maxRecDepth 100000
set_option maxHeartbeats 4000000
/-! An own error over Exception with two fields of its own, kind and place. -/
namespace SJ
namespace Fault
open PySem PySem.W PySem.Calls PyProof.Rows PySem.HandSPX
section
open Builtin Builtin.ObjectAttr
variable {prog : Program} {w : World} {A : Around} {E : Value → Shared → Prop} {R : Result → Shared → Prop} {hp : Heap} {g : Array GenState} {d : Drawn} {t : Nat} {os : OsState}
/-- what a store asks of the class's line -/
structure Line3 (cd : ClassData) : Prop where
  ok : ∀ self, refuseLoop self "__setattr__" cd.mro = pure ()
  ob : cd.mro.contains (.type "object") = true
  ne : cd.mro.isEmpty = false
  di : cd.hasDict = true
theorem line3 {cd : ClassData} {C : Addr} (e : cd.mro = .ref C :: excB) (h : cd.hasDict = true) : Line3 cd where
  ok := fun self => by rw [e, refuseLoop_ref]; exact F.store_Exception.passes self
  ob := by rw [e, List.contains_cons, show excB.contains (.type "object") = true by decide +kernel, Bool.or_true]
  ne := by rw [e]; rfl
  di := h
/-- the first field: the error gets its dict -/
theorem store1 {K : Frag} {name : Str} {tk : Tok} {v : Value} {x C : Addr} {fv : Array Value} {cd : ClassData} (X : K.In hp)
    (hx : hp.get? x = some { cls := .ref C, data := .fields fv }) (hcd : clsIn K C = some cd) (L : Line3 cd) (ha : findIn K (.ref C) name = some none)
    (hq : ∀ h' tk' dx, (∀ b o, b ≠ x → hp.get? b = some o → h'.get? b = some o) → hp.objs.size ≤ dx → dx ≠ x → h'.get? x = some { cls := .ref C, dict := some dx, data := .fields fv } →
      h'.Ns1 dx (fun y => if y = name then some v else none) → R (.ok (.ret .none)) ⟨h', g, d, tk', os⟩) :
    codeAny (model prog w) A (.call (.builtin "object.__setattr__") ⟨[.ref x, .str name tk, v], []⟩) R ⟨hp, g, d, t, os⟩ := by
  have J : InstAt hp x { cls := .ref C, data := .fields fv } C none := ⟨hx, rfl, rfl, trivial⟩
  have S0 := F.store_object
  have away : x ≠ hp.objs.size := Nat.ne_of_lt (Heap.lt_size hx)
  have inst : Looks (model prog w) hp (isInstance (.ref x) (.type "object")) true :=
    J.type.andThen (looks_mroIn X (by
      unfold mroIn
      rw [hcd, Option.bind_some, if_neg (by rw [L.ne]; decide), L.ob]))
  refine codeAny_call_builtin S0.slot.plain S0.entry
    (@check_slot (model prog w) _ _ ⟨hp, g, d, t, os⟩ "object.__setattr__" "object" "__setattr__" (.ref x) [.str name tk, v] [] _ S0.kind S0.split inst
      (S0.args (.ref x) (.str name tk) v) ?_)
  have way : Looks (model prog w) hp (mroOf (.ref C)) cd.mro := (looks_clsIn X hcd).andThen .now
  have none3 : Looks (model prog w) hp (storeTaker? none) none := .now
  have data3 : Looks (model prog w) hp (classData C) cd := looks_clsIn X hcd
  rw [osa_eq, refuse_eq]
  refine wpAny_bind (wpAny_bind (J.type.at (wpAny_bind (way.at ?_))))
  rw [L.ok]
  refine wpAny_pure (wpAny_bind (J.type.at (wpAny_bind ((looks_findIn X ha).at (wpAny_bind (none3.at ?_))))))
  show wpAny _ _ (storeInOwnDict (.ref x) (.ref C) (.str name tk) name v false) _ _ _
  obtain ⟨nm, bs, mro, ns, qn, hd, sn, sb, ab, col, dl⟩ := cd
  have yes : hd = true := L.di
  subst yes
  unfold storeInOwnDict ownDictForStores
  repeat (first
    | with_reducible refine store_in_new ?_ ?_
    | with_reducible refine wpAny_loadPart_at hx ?_
    | with_reducible refine data3.at ?_
    | wp_step)
  · exact ⟨_, #[], _, (Heap.get?_update_ne _ _ _ _ away.symm).trans (Heap.get?_push_at rfl rfl), rfl, fun e he => absurd he (by simp), fun _ => rfl⟩
  · intro h' tk' hn' hs
    have here : (hp.push { cls := .type "dict", data := .dict #[] }).get? x = some { cls := .ref C, data := .fields fv } := Heap.get?_push_of_some _ hx
    refine hq h' tk' hp.objs.size (fun b o hb ho => ?_) (Nat.le_refl _) away.symm ?_ hn'
    · exact (hs.2 b (Nat.ne_of_lt (Heap.lt_size ho))).trans
        ((Heap.get?_update_ne _ _ _ _ hb).trans (Heap.get?_push_of_some _ ho))
    · exact (hs.2 x away).trans (Heap.get?_update_self _ here rfl)
/-- a further field -/
theorem store2 {K : Frag} {name : Str} {tk : Tok} {v : Value} {x C dx : Addr} {fv : Array Value} {cd : ClassData} {m0 : Str → Option Value} {nl : List Str} (X : K.In hp)
    (hx : hp.get? x = some { cls := .ref C, dict := some dx, data := .fields fv }) (hns : hp.Ns1 dx m0) (hw : Within m0 nl) (hz : nl.length ≤ 1000) (hcd : clsIn K C = some cd) (L : Line3 cd)
    (ha : findIn K (.ref C) name = some none)
    (hq : ∀ h' tk', (∀ b o, b ≠ dx → hp.get? b = some o → h'.get? b = some o) → h'.Ns1 dx (fun y => if y = name then some v else m0 y) → R (.ok (.ret .none)) ⟨h', g, d, tk', os⟩) :
    codeAny (model prog w) A (.call (.builtin "object.__setattr__") ⟨[.ref x, .str name tk, v], []⟩) R ⟨hp, g, d, t, os⟩ := by
  obtain ⟨oD, esD, epD, hoD, hdD, _⟩ := hns.count hw
  have J : InstAt hp x { cls := .ref C, dict := some dx, data := .fields fv } C (some oD) := ⟨hx, rfl, rfl, hoD⟩
  have S0 := F.store_object
  have inst : Looks (model prog w) hp (isInstance (.ref x) (.type "object")) true :=
    J.type.andThen (looks_mroIn X (by
      unfold mroIn
      rw [hcd, Option.bind_some, if_neg (by rw [L.ne]; decide), L.ob]))
  refine codeAny_call_builtin S0.slot.plain S0.entry
    (@check_slot (model prog w) _ _ ⟨hp, g, d, t, os⟩ "object.__setattr__" "object" "__setattr__" (.ref x) [.str name tk, v] [] _ S0.kind S0.split inst
      (S0.args (.ref x) (.str name tk) v) ?_)
  have way : Looks (model prog w) hp (mroOf (.ref C)) cd.mro := (looks_clsIn X hcd).andThen .now
  have none3 : Looks (model prog w) hp (storeTaker? none) none := .now
  have data3 : Looks (model prog w) hp (classData C) cd := looks_clsIn X hcd
  rw [osa_eq, refuse_eq]
  refine wpAny_bind (wpAny_bind (J.type.at (wpAny_bind (way.at ?_))))
  rw [L.ok]
  refine wpAny_pure (wpAny_bind (J.type.at (wpAny_bind ((looks_findIn X ha).at (wpAny_bind (none3.at ?_))))))
  show wpAny _ _ (storeInOwnDict (.ref x) (.ref C) (.str name tk) name v false) _ _ _
  obtain ⟨nm, bs, mro, ns, qn, hd, sn, sb, ab, col, dl⟩ := cd
  have yes : hd = true := L.di
  subst yes
  unfold storeInOwnDict ownDictForStores
  repeat (first
    | with_reducible refine PySem.OEX.store_in_old hns hw hz ?_
    | with_reducible refine wpAny_loadPart_at hx ?_
    | with_reducible refine data3.at ?_
    | wp_step)
  intro h' tk' hn' hs
  exact hq h' tk' (fun b o hb ho => (hs.2 b hb).trans ho) hn'
end
/-- what the written part says of TextFault, at C, and of its __init__, at fI -/
structure Txt (K : Frag) (mg : Str → Option Value) (C fI : Addr) : Prop where
  gC : mg "TextFault" = some (.ref C)
  cls : ∃ nm q N bs sn sub ab col dd k0 k1 k2 k3 k5, K.lookup C = some (excClassObj nm q C N bs excB true sn sub ab col dd k0 k1 k2 k3 k5 "Exception.__new__")
  sa : findIn K (.ref C) "__setattr__" = some (some (.builtin "object.__setattr__"))
  ga : findIn K (.ref C) "__getattribute__" = some (some (.builtin "BaseException.__getattribute__"))
  gg : findIn K (.ref C) "__getattr__" = some none
  noK : findIn K (.ref C) "kind" = some none
  noP : findIn K (.ref C) "place" = some none
  iC : findIn K (.ref C) "__init__" = some (some (.ref fI))
  tC : typeIn K (.ref fI) = some (.type "function")
  kC : keepIn K (.ref C) = true
  exC : subIn K (.ref C) (.type "BaseException") = some true
  tyC : typeIn K (.ref C) = some (.type "type")
  hdC : hasDictIn K C = true
  fn : ∃ fd, L2.FunD K d_TextFault_init.name d_TextFault_init.qual d_TextFault_init.params d_TextFault_init.body d_TextFault_init.scope [] [] fI fd
theorem two_size (v u : Value) : [v, u].length ≤ sizeLine := by
  rw [sizeLine_eq]
  exact (by decide : 2 ≤ 16777216)
/-- what __init__ leaves of a fresh error at x -/
structure InitEnd (h h' : Heap) (x C dx t1 : Addr) (v u : Value) : Prop where
  keep : ∀ b o, b ≠ x → h.get? b = some o → h'.get? b = some o
  obj : h'.get? x = some { cls := .ref C, dict := some dx, data := .fields #[.ref t1, .none, .none, .none, .bool false, .none] }
  dbig : h.objs.size ≤ dx
  dne : dx ≠ x
  ns : h'.Ns1 dx (fun y => if y = "place" then some u else if y = "kind" then some v else none)
/-- a made error -/
structure Made (h h' : Heap) (e C d : Addr) (v u : Value) : Prop where
  keep : ∀ b o, h.get? b = some o → h'.get? b = some o
  new : h.objs.size ≤ e
  obj : ∃ oe vs, h'.get? e = some oe ∧ oe.cls = .ref C ∧ oe.dict = some d ∧ oe.data = .fields vs ∧ vs[1]? = some .none
  dbig : h.objs.size ≤ d
  dne : d ≠ e
  ns : h'.Ns1 d (fun y => if y = "place" then some u else if y = "kind" then some v else none)
theorem ldV {M : Model} {s : Shared} {name : Str} {scope : Scope} {L a : Addr} {cd : Value} {m : Str → Option Value} {x : Str} {pos : Pos} {v : Value} {Q : Value → Shared → Prop} {A : Around} {E : Value → Shared → Prop}
    (hn : s.heap.Ns L m) (hv : m x = some v) (h : Q v s) (hk : scope.kind = .function := by rfl) (hl : (envOfC name scope L a cd).kindOf x = some .local := by rfl) (hd : (x == ("__debug__" : Str)) = false := by decide) :
    wpAny M A (eval (.Name x pos) (envOfC name scope L a cd)) Q E s :=
  wpAny_Name (wpAny_loadName_local hk hl hn hv h) hd
section
variable {prog : Program} {w : World} {A : Around} {E : Value → Shared → Prop} {R : Result → Shared → Prop} {s : Shared} {K : Frag} {mg : Str → Option Value} {C fI : Addr}
theorem init_run (T : Txt K mg C fI) {x t0 : Addr} {v u : Value} (X : K.In s.heap) (hlim : s.heap.NoLimit) (hx : s.heap.get? x = some (excO C t0)) (hnx : K.lookup x = none) (hroom : A.depth < recursionLimit)
    (hq : ∀ h' tk dx, InitEnd s.heap h' x C dx t0 v u → R (.ok (.ret .none)) { s with heap := h', toks := tk }) :
    codeAny (model prog w) A (.call (.ref fI) ⟨[.ref x, v, u], []⟩) R s := by
  obtain ⟨fd, F⟩ := T.fn
  obtain ⟨oc, od, dV, kV, doc, pm, an, cdv, ct, osl, rfl, ho, hcd, hD, _⟩ := F.ex
  obtain rfl : dV = .none := by
    rcases hD with ⟨_, z⟩ | ⟨z, _⟩
    · exact z
    · exact absurd rfl z
  obtain ⟨nm, q, N, bs, sn, sub, ab, col, dd, k0, k1, k2, k3, k5, hC⟩ := T.cls
  have hcl : clsIn K C = some { name := nm, bases := bs, mro := .ref C :: excB, ns := N, qualname := q, hasDict := true, slotNames := sn, subclasses := sub, abstract := ab, collection := col, hasDel := false } := by
    unfold clsIn
    rw [hC] <;> rfl
  have L3 : Line3 { name := nm, bases := bs, mro := .ref C :: excB, ns := N, qualname := q, hasDict := true, slotNames := sn, subclasses := sub, abstract := ab, collection := col, hasDel := false } := line3 rfl rfl
  refine Att.call_fn (binds := [("self", .ref x), ("kind", v), ("place", u)]) X hlim ho hcd hroom (BindsTo.of_eq (by first | rfl | with_unfolding_all rfl)) (by first | rfl | decide | with_unfolding_all rfl) (fun s₁ IC => ?_) rfl rfl rfl
  obtain ⟨h₁, tk₁, rfl⟩ := IC.toInCall.same
  have k : ∀ b o, s.heap.get? b = some o → h₁.get? b = some o := IC.toInCall.keep
  have hn := IC.toInCall.ns
  have X1 : K.In h₁ := X.keeps k
  have hx1 := k _ _ hx
  have big : s.heap.objs.size < h₁.objs.size := hn.lt
  have xL : s.heap.objs.size ≠ x := Nat.ne_of_gt (Heap.lt_size hx)
  -- self.kind = kind
  show wpAny _ _ (execs _ _) _ _ _
  refine wpAny_execs_cons (plainObj_wpAny_Assign_Attribute ?_)
  refine ldV (v := v) hn (by first | rfl | with_unfolding_all rfl | kernel_rfl) (ldV (v := .ref x) hn (by first | rfl | with_unfolding_all rfl | kernel_rfl) ?_)
  refine set_plain X1 (ox := excO C t0) (od := none) ⟨hx1, rfl, rfl, trivial⟩ T.sa ?_
  refine store1 X1 hx1 hcl L3 T.noK (fun h₃ tk₃ dx k₃ dn dne hx₃ hn₃ => ?_)
  -- self.place = place
  have X3 : K.In h₃ := fun b o e => k₃ b o (fun z => by rw [z, hnx] at e; cases e) (X1 b o e)
  have hn3 : h₃.Ns s.heap.objs.size _ := let ⟨o, es, ep, e, dd, r⟩ := hn; ⟨o, es, ep, k₃ _ _ xL e, dd, r⟩
  obtain ⟨oD, _, _, hoD, _, _⟩ := hn₃.count (Within.cons "kind" v Within.nil)
  show wpAny _ _ (execs _ _) _ _ _
  refine wpAny_execs_cons (plainObj_wpAny_Assign_Attribute ?_)
  refine ldV (v := u) hn3 (by first | rfl | with_unfolding_all rfl | kernel_rfl) (ldV (v := .ref x) hn3 (by first | rfl | with_unfolding_all rfl | kernel_rfl) ?_)
  refine set_plain X3 (ox := { cls := .ref C, dict := some dx, data := .fields #[.ref t0, .none, .none, .none, .bool false, .none] }) (od := some oD) ⟨hx₃, rfl, rfl, hoD⟩ T.sa ?_
  refine store2 X3 hx₃ hn₃ (Within.cons "kind" v Within.nil) (by decide) hcl L3 T.noP (fun h₄ tk₄ k₄ hn₄ => ?_)
  show wpAny _ _ (execs _ _) _ _ _
  have xd : x ≠ dx := dne.symm
  refine wpAny_execs_nil (hq h₄ tk₄ dx ⟨fun b o hb e => ?_, k₄ _ _ xd hx₃, Nat.le_of_lt (Nat.lt_of_lt_of_le big dn), dne, hn₄⟩)
  have lt : b < dx := Nat.lt_of_lt_of_le (Nat.lt_trans (Heap.lt_size e) big) dn
  exact k₄ b o (Nat.ne_of_lt lt) (k₃ b o hb (k b o e))
theorem made_run (T : Txt K mg C fI) {v u : Value} (X : K.In s.heap) (hlim : s.heap.NoLimit) (hroom : A.depth + 1 < recursionLimit)
    (hq : ∀ h' tk e d, Made s.heap h' e C d v u → R (.ok (.ret (.ref e))) { s with heap := h', toks := tk }) :
    codeAny (model prog w) A (.call (.ref C) ⟨[v, u], []⟩) R s := by
  obtain ⟨nm, q, N, bs, sn, sub, ab, col, dd, k0, k1, k2, k3, k5, hC⟩ := T.cls
  obtain ⟨hp, g, dr, tk, os⟩ := s
  have k : ∀ b o, hp.get? b = some o → ((hp.push (kdv_tup [v, u])).push (excO C hp.objs.size)).get? b = some o := fun b o e => Heap.get?_push_of_some _ (Heap.get?_push_of_some _ e)
  have hget : ((hp.push (kdv_tup [v, u])).push (excO C hp.objs.size)).get? (hp.objs.size + 1) = some (excO C hp.objs.size) := by heap_get
  have hnx : K.lookup (hp.objs.size + 1) = none := by
    cases e : K.lookup (hp.objs.size + 1) with
    | none => rfl
    | some o =>
      have z : hp.get? (hp.objs.size + 1) = some o := X _ _ e
      exact absurd (Nat.lt_of_succ_lt (Heap.lt_size z)) (Nat.lt_irrefl _)
  refine call_own PySem.F.excBase_Exception (fun _ => rfl) (X _ _ hC) (looks_findIn X T.iC) (fun self => bind_fn X self T.tC) (two_size v u) ?_
  refine init_run (s := ⟨(hp.push (kdv_tup [v, u])).push (excO C hp.objs.size), g, dr, tk, os⟩) T (X.keeps k) (hlim.keeps k) hget hnx hroom fun h' tk' dx ⟨k', hx, dn, dne, hns⟩ => ?_
  have old : ∀ b o, hp.get? b = some o → h'.get? b = some o := fun b o e => k' b o (Nat.ne_of_lt (Nat.lt_succ_of_lt (Heap.lt_size e))) (k b o e)
  have z : hp.objs.size + 1 + 1 ≤ dx := by
    first
      | (simpa only [Heap.size_push] using dn)
      | exact dn
  exact ⟨rfl, hq h' tk' (hp.objs.size + 1) dx ⟨old, Nat.le_succ _, ⟨_, _, hx, rfl, rfl, rfl, rfl⟩, Nat.le_trans (Nat.le_trans (Nat.le_succ _) (Nat.le_succ _)) z, dne, hns⟩⟩
end
end Fault
open PySem PySem.Spec PyProof.Rows L2
/-- the fields of an error -/
def faultF (v u : V) : List (Str × V) := [("kind", v), ("place", u)]
theorem relO_fault {v u : V} {v' u' : Value} (r : RelV v v') (q : RelV u u') (f : Str) : RelO (List.lookup f (faultF v u)) (if f = "place" then some u' else if f = "kind" then some v' else none) := by
  by_cases hp : f = "place"
  · subst hp
    rw [if_pos rfl]
    have e : List.lookup ("place" : Str) (faultF v u) = some u := by rfl
    rw [e]
    exact q
  · rw [if_neg hp]
    by_cases hk : f = "kind"
    · subst hk
      rw [if_pos rfl]
      have e : List.lookup ("kind" : Str) (faultF v u) = some v := by rfl
      rw [e]
      exact r
    · rw [if_neg hk]
      have e1 : (f == ("kind" : Str)) = false := by simpa using hk
      have e2 : (f == ("place" : Str)) = false := by simpa using hp
      have e : List.lookup f (faultF v u) = none := by
        unfold faultF
        simp [List.lookup, e1, e2]
      rw [e]
      trivial
section
variable {X : Cx} {C fI : Addr}
/-- TextFault(a, b) -/
def tMkFault (C : Addr) (ta : TA) : L2.St → Hp → XK → Prop := fun σ H Q => ta σ H fun vs H1 => ∃ v u, vs = [v, u] ∧ ∀ d, H1 d = none → Q (.ref C) (some d) (upd H1 d (.xd (faultF v u)))
theorem pmk_fault {a b : Expr} {ta : TA} {p pos : Pos} {k : Nat} (T : Fault.Txt X.K X.mg C fI) (hr : Room k X.A) (ha : PA X [a, b] ta) (hg : Gl X "TextFault" := by rfl)
    (he : starEach (a :: [b]) X.env = (false, eval a X.env) :: starEach [b] X.env := by rfl) (hpl : (backTo pos (starEach [b] X.env)).any (·.1) = false := by rfl) :
    PMk X (.Call (.Name "TextFault" p) [a, b] [] pos) (tMkFault C ta) := by
  intro pins s σ H Q I h
  refine wpAny_Call_Name_kw (ld_glob I hg T.gC ?_)
  refine PySem.W.callWith_K (h₀ := X.base) I.ok.mod.kin T.kC (thn (ha.run pos pins s σ H _ I h) fun us s1 hh => ?_) he hpl
  obtain ⟨vs, H1, I1, r1, v, u, ev, q1⟩ := hh
  subst ev
  refine ⟨I1.kIn, ?_⟩
  cases r1 with
  | cons rv r2 =>
    cases r2 with
    | cons ru rn =>
      cases rn
      show wpAny _ _ (call (.ref C) [_, _]) _ _ _
      have hlim := I1.nolimit
      obtain ⟨hp, g, dr, tk, os⟩ := s1
      refine wpAny_call (Fault.made_run T I1.kIn hlim (by have := hr.dp; omega) fun h' tk' e d M => ?_)
      show MkP X pins σ Q (.ref e) ⟨h', g, dr, tk', os⟩
      obtain ⟨oe, fv, hoe, hc, hd, hdat, h1⟩ := M.obj
      have hns := M.ns
      obtain ⟨G', g1, g2⟩ := restrict h' fun b => decide (b ≠ e)
      have gk : ∀ b, b ≠ e → G'.get? b = h'.get? b := fun b hb => g1 b (decide_eq_true hb)
      have ge : G'.get? e = none := g2 e (by simp)
      have old : ∀ b o, hp.get? b = some o → G'.get? b = some o := fun b o q => (gk b (Nat.ne_of_lt (Nat.lt_of_lt_of_le (Heap.lt_size q) M.new))).trans (M.keep b o q)
      have ob : ObjOk X.prog X.w (upd H1 d (.xd (faultF v u))) G' d (.xd (faultF v u)) :=
        ⟨_, hns.at (fun o q => (gk d M.dne).trans q), fun f => relO_fault rv ru f⟩
      have J : Inv X pins σ (upd H1 d (.xd (faultF v u))) ⟨G', g, dr, tk', os⟩ := I1.laid (t' := tk') old M.dbig ob
      refine ⟨e, oe, fv, ⟨G', g, dr, tk', os⟩, _, .ref C, some d, rfl, J, fun b o q => ?_, ge, hoe, ⟨hc, hd⟩, hdat, h1, ?_, rfl, I1.bare, raises_own T.exC T.tyC, q1 d (I1.hok.fresh M.dbig)⟩
      · by_cases hb : b = e
        · have q' : G'.get? b = some o := q
          rw [hb, ge] at q'
          cases q'
        · exact (gk b hb).symm.trans q
      · rw [upd_ne (Ne.symm M.dne)]
        exact I1.hok.fresh M.new
/-- raise TextFault(a, b) -/
theorem ps_raiseTextFault {a b : Expr} {ta : TA} {W : WX} {p pos pos2 : Pos} {k : Nat} (hc : X.calm = true) (T : Fault.Txt X.K X.mg C fI) (hr : Room k X.A) (tk : Takes X W) (ha : PA X [a, b] ta) (hg : Gl X "TextFault" := by rfl)
    (he : starEach (a :: [b]) X.env = (false, eval a X.env) :: starEach [b] X.env := by rfl) (hpl : (backTo pos (starEach [b] X.env)).any (·.1) = false := by rfl) :
    PS X (.Raise (some (.Call (.Name "TextFault" p) [a, b] [] pos)) none pos2) (fun _ σ H => tMkFault C ta σ H fun cls d H' => W cls d σ H') := ps_raise hc tk (pmk_fault T hr ha hg he hpl)
/-- fault.f, fault the error that the suite holds (at a; its class cls, its dict d) -/
def tFaultF (C a : Addr) (cls : Value) (d : Option Addr) (f : Str) (te : TE) : TE := fun σ H Q => te σ H fun x H1 => x = .ref a ∧ cls = .ref C ∧ ∃ (dd : Addr) (fs : List (Str × V)) (v : V), d = some dd ∧ H1 dd = some (.xd fs) ∧ fs.lookup f = some v ∧ Q v H1
theorem pe_faultF {a : Addr} {oe : Obj} {cls : Value} {d : Option Addr} {pn : List (Addr × Obj)} {e : Expr} {te : TE} {pos : Pos} {f : Str} (T : Fault.Txt X.K X.mg C fI) (noF : PySem.W.findIn X.K (.ref C) f = some none) (hz : Zc cls d oe) (hf : ∃ vs, oe.data = .fields vs) (he : PE (X.suite a ((a, oe) :: pn)) e te)
    (hb : attributeBase e f X.env (eval e X.env) = eval e X.env := by rfl) :
    PE (X.suite a ((a, oe) :: pn)) (.Attribute e f pos) (tFaultF C a cls d f te) := by
  refine ⟨fun pins s σ H Q I h => ?_⟩
  refine attr_of hb (thn (he.run pins s σ H _ I h) fun u s1 hh => ?_)
  obtain ⟨x, H1, I1, rx, ex, ec, dd, fs, v, ed, ea, l, q⟩ := hh
  subst ex
  obtain rfl : u = Value.ref a := rx
  subst ec
  subst ed
  obtain ⟨ha, _⟩ := I1.pin (a, oe) (List.mem_append_left _ List.mem_cons_self)
  obtain ⟨vs, hd⟩ := hf
  have hx : ObjOk X.prog X.w H1 s1.heap dd (.xd fs) := I1.hok dd _ ea
  obtain ⟨mA, hns, hr⟩ := hx
  obtain ⟨od, ho, hl⟩ := lookIn_ns hns
  obtain ⟨u, hu, ru⟩ := RelO.some_of (v := v) (o := mA f) (by rw [← l]; exact hr f)
  have J : PySem.W.InstAt s1.heap a oe C (some od) := ⟨ha, hz.1, by unfold PySem.W.notCls; rw [hd] <;> rfl, by rw [hz.2]; exact ho⟩
  exact HandSPX.exc_get I1.kIn J T.ga T.gg T.exC (PySem.W.findObj_own T.hdC noF rfl (by rw [hl, hu])) (handed_of ru) ⟨v, H1, I1.tok _, ru, q⟩
end
end SJ
end
section
set_option Elab.async false
set_option linter.all false
set_option maxRecDepth 100000
set_option maxHeartbeats 4000000
/-! A try with several clauses, some of which name the error. -/
namespace SJ
open PySem PySem.Spec PyProof.Rows L2
/-- behind a suite its name's slot holds nothing -/
def unslot (i : Nat) (D : Ends) : Ends := { nx := fun r h => D.nx (r.set i none) h, rt := D.rt, bk := fun r h => D.bk (r.set i none) h, ct := fun r h => D.ct (r.set i none) h }
/-- a clause: the class that it names, the slot of its name if it has one, its suite's reading -/
structure Clause where
  c : Value
  slot : Option Nat
  ts : Addr → Value → Option Addr → TS
def Clause.go (q : Clause) (e : Addr) (cls : Value) (dct : Option Addr) (D : Ends) (r : L2.St) (h : Hp) : Prop := match q.slot with
  | none => q.ts e cls dct D r h
  | some i => q.ts e cls dct (unslot i D) (r.set i (some (.ref e))) h
def wMix (K : PySem.W.Frag) (Wout : WX) (D : Ends) : List Clause → WX
  | [] => Wout
  | q :: l => fun cls dct r h => ∃ b, PySem.W.exmOne K cls q.c = some b ∧ (b = true → ∀ e, h e = none → q.go e cls dct D r h) ∧ (b = false → wMix K Wout D l cls dct r h)
inductive MixOk (X : Cx) : List ExceptHandler → List Clause → Prop
  | nil : MixOk X [] []
  | bare {x : Str} {c : Value} {ts : Addr → Value → Option Addr → TS} {b₀ : Stmt} {suite : List Stmt} {np pos' : Pos} {hds : List ExceptHandler} {l : List Clause} (hc : Names X x c)
      (hsu : ∀ (e : Addr) (oe : Obj) (cls : Value) (dct : Option Addr) (pn : List (Addr × Obj)), Zc cls dct oe → (∃ vs, oe.data = .fields vs) → PSs (X.suite e ((e, oe) :: pn)) (b₀ :: suite) (ts e cls dct)) (more : MixOk X hds l) :
      MixOk X (.ExceptHandler (some (.Name x np)) none (b₀ :: suite) pos' :: hds) (⟨c, none, ts⟩ :: l)
  | named {x n : Str} {i : Nat} {c : Value} {ts : Addr → Value → Option Addr → TS} {b₀ : Stmt} {suite : List Stmt} {np pos' : Pos} {hds : List ExceptHandler} {l : List Clause} (hc : Names X x c)
      (hi : X.N[i]? = some n) (hln : X.env.kindOf n = some .local)
      (hsu : ∀ (e : Addr) (oe : Obj) (cls : Value) (dct : Option Addr) (pn : List (Addr × Obj)), Zc cls dct oe → (∃ vs, oe.data = .fields vs) → PSs (X.suite e ((e, oe) :: pn)) (b₀ :: suite) (ts e cls dct)) (more : MixOk X hds l) :
      MixOk X (.ExceptHandler (some (.Name x np)) (some n) (b₀ :: suite) pos' :: hds) (⟨c, some i, ts⟩ :: l)
section
variable {X : Cx} {body : List Stmt} {h₀ : ExceptHandler} {hds : List ExceptHandler} {l : List Clause} {pos : Pos} {tb : WX → TS} {Wout : WX}
theorem ps_try_mix (hN : X.N.Nodup) (stk : X.stack = X.env :: X.outer) (frm : X.env.frame = some X.env.locals) (tk : Takes X Wout)
    (hb : ∀ (W : WX) (pn : List (Addr × Obj)) (xe : Value → Shared → Prop), Takes (X.tr pn xe) W → PassesOwn (model X.prog X.w) X.A X.env xe → PSs (X.tr pn xe) body (tb W))
    (hh : MixOk X (h₀ :: hds) l) : PS X (.Try body (h₀ :: hds) [] [] pos) (fun D r h => tb (wMix X.K Wout D l) D r h) := by
  refine ⟨fun pins s r h D I rd => ?_⟩
  have okX := I.ok
  have frs2 : X.A.frames = some (X.env :: X.outer) := by rw [okX.frames, stk]
  refine wpAny_Try_except ?_
  refine wpAny_mono ((hb (wMix X.K Wout D l) (X.pn ++ pins)
    (fun e s₁ => wpAny (model X.prog X.w) X.A (noteFrame e X.env)
      (fun _ s₂ => wpAny (model X.prog X.w) X.A (setFlight e none)
        (fun _ s₃ => wpAny (model X.prog X.w) X.A (handleBy e X.env (h₀ :: hds)) (SP X pins D) X.xe s₃) X.xe s₂) X.xe s₁)
    (fun u z xx => ?_) PassesOwn.looking).run [] s r h D (I.toTry _) rd) (fun f s1 hsp => ?_) (fun e s1 he => he)
  · obtain ⟨e, Gr, sI, pinsI, rI, hI, cls, dct, rfl, JI, nb, up, sky, ne, osE, ag, wish⟩ := xx
    have J : Inv X pins rI hI sI := JI.ofTry okX
    have skyX : Sky Gr (X.env :: X.outer) e (Zc cls dct) X.env.locals z.heap := by rw [← stk]; exact sky
    show wpAny (model X.prog X.w) X.A (noteFrame (.ref e) X.env) _ _ _
    refine Sky.land Zc.steady frs2 frm skyX fun ha fla upa => ?_
    have Ja : Inv X pins rI hI { z with heap := ha } := J.landed nb fla.1 (up.trans upa) osE ag
    obtain ⟨oea, vsa, gea, zca, dta⟩ := fla.there
    have nfr : e ∉ frs (X.env :: X.outer) := fun hm => by
      obtain ⟨_, o', e', hnf⟩ := fla.2.2.1.mem hm
      rw [gea] at e'
      cases e'
      exact hnf _ dta
    have nL : e ≠ X.env.locals := fun q => nfr (List.mem_filterMap.mpr ⟨X.env, List.mem_cons_self, by rw [frm, q]⟩)
    have nF : e ∉ X.fs := fun hm => by
      obtain ⟨en, hen, q⟩ := List.mem_filterMap.mp hm
      exact nfr (List.mem_filterMap.mpr ⟨en, List.mem_cons_of_mem _ hen, q⟩)
    have Sa := Ja.suite gea dta ne nL nF
    have typ : PySem.W.Looks (model X.prog X.w) ha (typeOf (.ref e)) cls := fun A Q E s k q => wpAny_typeOf_ref (k _ _ gea) (by rw [zca.1]; exact q)
    have asked : ∀ {x : Str} {c : Value} {np : Pos}, Names X x c → ∀ {Q : Value → Shared → Prop} {E : Value → Shared → Prop}, Q c { z with heap := ha } →
        wpAny (model X.prog X.w) (X.A.mark (some (.ref e))) (eval (.Name x np) X.env) Q E { z with heap := ha } := fun {x c np} nm {Q E} q => by
      obtain ⟨hg, hdbg, hm | ⟨hm, hv, hnn⟩⟩ := nm
      · exact ld_glob (X := X.suite e ((e, oea) :: (X.pn ++ pins))) Sa hg hm q hdbg
      · exact ld_blt (X := X.suite e ((e, oea) :: (X.pn ++ pins))) Sa hg hm hv q hnn hdbg
    have go : ∀ {hs2 : List ExceptHandler} {l2 : List Clause}, MixOk X hs2 l2 → wMix X.K Wout D l2 cls dct rI hI →
        wpAny (model X.prog X.w) X.A (handleBy (.ref e) X.env hs2) (SP X pins D) X.xe { z with heap := ha } := by
      intro hs2 l2 hk
      induction hk with
      | nil =>
        intro wsh
        refine wpAny_handleBy_nil ?_
        obtain ⟨q1, q2, q3, oe, vs, tb', oT, ts', geo, hz, hd, h1, hr⟩ := id fla
        unfold PySem.passOn
        refine wpAny_bind (wpAny_field geo hd h1 ?_)
        rw [if_neg (show ¬ ((Value.ref tb' == Value.none) = true) from by simp)]
        have fin : wpAny (model X.prog X.w) X.A (setFlight (.ref e) X.env.frame)
            (fun _ s4 => wpAny (model X.prog X.w) X.A (throw (.ref e) : Sem Flow) (SP X pins D) X.xe s4) X.xe { z with heap := ha } := by
          rw [frm]
          refine HandSPX.setFlight_upZ fla fun hb4 hh4 up4 => wpAny_throw (tk _ _ ?_)
          exact ⟨e, Gr, sI, pins, rI, hI, cls, dct, rfl, J, nb, (up.trans upa).trans up4, .inr (.inr (by rw [stk]; exact hh4)), ne, osE, ag, wsh⟩
        first
          | exact wpAny_bind (wpAny_pure (wpAny_bind fin))
          | exact wpAny_bind fin
      | @bare x c ts b₀ suite np pos' hds2 l2 nm hsu more ih =>
        intro wsh
        obtain ⟨b, exm, yes, no⟩ := wsh
        refine wpAny_handleBy_cons (codeAny_handlers_test ?_) (by intro q; cases q)
        refine asked nm ((PySem.W.exm_one (M := model X.prog X.w) Ja.kIn typ exm).here ?_)
        cases b with
        | true =>
          refine codeAny_handlers_suite (HandSPX.lands_againZ fla fun hc flc upc => ?_)
          have Jc : Inv X pins rI hI { z with heap := hc } := J.landed nb flc.1 ((up.trans upa).trans upc) osE ag
          obtain ⟨oec, vsc, gec, zcc, dtc⟩ := flc.there
          have Sc := Jc.suite gec dtc ne nL nF
          refine wpAny_mono ((hsu e oec cls dct (X.pn ++ pins) zcc ⟨_, dtc⟩).run [] _ _ hI _ Sc (yes rfl e ne)) (fun f s6 hsp => ?_) (fun _ _ q => q.elim)
          cases f with
          | next => exact let ⟨_, _, S6, q6⟩ := hsp; ⟨_, _, S6.unsuite okX, q6⟩
          | brk => exact let ⟨_, _, S6, q6⟩ := hsp; ⟨_, _, S6.unsuite okX, q6⟩
          | cont => exact let ⟨_, _, S6, q6⟩ := hsp; ⟨_, _, S6.unsuite okX, q6⟩
          | ret u => exact let ⟨_, _, _, S6, r6, q6⟩ := hsp; ⟨_, _, _, S6.unsuite okX, r6, q6⟩
        | false =>
          show wpAny _ X.A (handleBy (.ref e) X.env hds2) _ _ _
          exact ih (no rfl)
      | @named x n i c ts b₀ suite np pos' hds2 l2 nm hi hln hsu more ih =>
        intro wsh
        obtain ⟨b, exm, yes, no⟩ := wsh
        refine wpAny_handleBy_cons (codeAny_handlers_test ?_) (by intro q; cases q)
        refine asked nm ((PySem.W.exm_one (M := model X.prog X.w) Ja.kIn typ exm).here ?_)
        cases b with
        | true =>
          refine codeAny_handlers_suite_as (HandSPX.lands_againZ fla fun hc flc upc => ?_)
          have Jc : Inv X pins rI hI { z with heap := hc } := J.landed nb flc.1 ((up.trans upa).trans upc) osE ag
          obtain ⟨oec, vsc, gec, zcc, dtc⟩ := flc.there
          have Sc := Jc.suite gec dtc ne nL nF
          refine store_ok (X := X.suite e ((e, oec) :: (X.pn ++ pins))) (v := .ref e) Sc hN hi (.inl hln) rfl (fun s5 S5 => ?_) (.inr hln)
          refine wpAny_mono ((hsu e oec cls dct (X.pn ++ pins) zcc ⟨_, dtc⟩).run [] s5 _ hI _ S5 (yes rfl e ne)) (fun f s6 hsp => ?_) (fun _ _ q => q.elim)
          have done : ∀ {r6 : L2.St} {h6 : Hp} {Q : Shared → Prop}, Inv (X.suite e ((e, oec) :: (X.pn ++ pins))) [] r6 h6 s6 → (∀ s7, Inv X pins (r6.set i none) h6 s7 → Q s7) →
              wpAny (model X.prog X.w) X.A (do bindName X.env n .none; unbindBehindTheSuite X.env n pos') (fun _ s7 => Q s7) X.xe s6 :=
            fun {r6 h6 Q} S6 hq => gone_ok (S6.unsuite okX) hN hi hln hq
          cases f with
          | next => exact let ⟨_, _, S6, q6⟩ := hsp; done S6 fun s7 J7 => ⟨_, _, J7, q6⟩
          | brk => exact let ⟨_, _, S6, q6⟩ := hsp; done S6 fun s7 J7 => ⟨_, _, J7, q6⟩
          | cont => exact let ⟨_, _, S6, q6⟩ := hsp; done S6 fun s7 J7 => ⟨_, _, J7, q6⟩
          | ret u => exact let ⟨_, _, _, S6, r6, q6⟩ := hsp; done S6 fun s7 J7 => ⟨_, _, _, J7, r6, q6⟩
        | false =>
          show wpAny _ X.A (handleBy (.ref e) X.env hds2) _ _ _
          exact ih (no rfl)
    exact go hh wish
  · cases f with
    | next => exact let ⟨r1, h1, J1, q⟩ := hsp; wpAny_execs_nil ⟨r1, h1, J1.ofTry okX, q⟩
    | brk => exact let ⟨r1, h1, J1, q⟩ := hsp; ⟨r1, h1, J1.ofTry okX, q⟩
    | cont => exact let ⟨r1, h1, J1, q⟩ := hsp; ⟨r1, h1, J1.ofTry okX, q⟩
    | ret u => exact let ⟨v1, r1, h1, J1, rr, q⟩ := hsp; ⟨v1, r1, h1, J1.ofTry okX, rr, q⟩
end
end SJ
end
section
set_option Elab.async false
set_option linter.all false
set_option maxRecDepth 100000
set_option maxHeartbeats 4000000
/-! A dict of the module with int keys, read. -/
namespace SJ
open PySem PySem.Spec PyProof.Rows L2
/-- at a a written dict, its keys ints -/
def KInt (K : PySem.W.Frag) (a : Addr) : Prop := ∃ es n, K.lookup a = some ⟨.type "dict", none, .dict es n, #[]⟩ ∧ ∀ e ∈ es, intEnt e = true
/-- the value at a key -/
def iGet (K : PySem.W.Frag) (a : Addr) (i : Int) : Option Value := match K.lookup a with
  | some ⟨_, _, .dict es _, _⟩ => findBy Value.isInt es i
  | _ => none
def rIxI (K : PySem.W.Frag) : R2 := fun x y H Q => ∃ p i u v, x = .ref p ∧ y = .int i ∧ KInt K p ∧ iGet K p i = some u ∧ RelV v u ∧ Q v H
section
variable {X : Cx}
theorem ix_kint : IxR X (rIxI X.K) := by
  intro value slice pins s σ H x y v u Q I rx ry h hs
  obtain ⟨p, i, u0, r, rfl, rfl, ⟨es, n, hl, hk⟩, e, ru, q⟩ := h
  obtain rfl : v = Value.ref p := rx
  obtain ⟨t, rfl⟩ := ry
  have keys : PySem.KeysOf (PySem.intKind X.prog X.w) es := fun d hd => by
    have z := hk d hd
    unfold intEnt at z
    cases ek : d.key with
    | int j t2 =>
      rw [ek] at z
      exact ⟨j, PySem.intKind_is X.prog X.w j t2, of_decide_eq_true z⟩
    | _ =>
      rw [ek] at z
      cases z
  have hm : s.heap.MapOf (PySem.intKind X.prog X.w) p (fun k => findBy Value.isInt es k) := ⟨_, es, n, I.kIn _ _ hl, ⟨rfl, rfl, rfl⟩, rfl, keys, fun _ => rfl⟩
  have hv : findBy Value.isInt es i = some u0 := by
    unfold iGet at e
    rw [hl] at e
    exact e
  exact tail_any hm.typeIs slot_dict_getitem.lookup (wpAny_getItem_of (PySem.intKind_is X.prog X.w i t) hm hv ⟨r, H, I.tok _, ru, q⟩) hs
end
/-! ## what the head tells of TextFault, of the classes of errors, of the two dicts -/
section
variable {K : PySem.W.Frag} {mg : Str → Option Value} {base : Heap}
theorem Fx.fault (T : Fx K mg base) : Fault.Txt K mg (He.ga K "TextFault") (He.ma K (He.ga K "TextFault") "__init__") := by
  have h : faultOk K = true := (Bool.and_eq_true_iff.mp (Bool.and_eq_true_iff.mp T.more).2).1
  unfold faultOk at h
  simp only [Bool.and_eq_true, decide_eq_true_eq] at h
  obtain ⟨h0, h1, h2, h3, h4, h5, h6, h7, h8, h9⟩ := h
  refine ⟨g_TextFault T, ?_, He.eqO_ok h1, He.eqO_ok h2, He.eqO_ok h3, n_TextFault_kind T, n_TextFault_place T, He.eqO_ok h4, h5, h6, h7, h8, h9, F_TextFault_init T⟩
  split at h0
  · rename_i dd cd sl ho
    simp only [Bool.and_eq_true, decide_eq_true_eq, Bool.not_eq_true'] at h0
    obtain ⟨m1, m2, m3, m4⟩ := h0
    split at m4
    · rename_i k0 k1 k2 k3 n k5 hs
      have m4 : n = "Exception.__new__" := by simpa using m4
      subst m4
      obtain ⟨nm, bs, mro, ns, qn, hd, sn, sub, ab, col, del⟩ := cd
      dsimp only at m1 m2 m3
      subst m1 m2 m3
      have hsl : sl = #[k0, k1, k2, k3, some (.builtin "Exception.__new__"), k5] := by
        obtain ⟨l⟩ := sl
        simp only at hs
        rw [hs]
      subst hsl
      exact ⟨nm, qn, ns, bs, sn, sub, ab, col, dd, k0, k1, k2, k3, k5, ho⟩
    · cases m4
  · cases h0
theorem Fx.TextFault (T : Fx K mg base) : Fault.Txt K mg (He.ga K "TextFault") (He.ma K (He.ga K "TextFault") "__init__") := T.fault
theorem Fx.exm (T : Fx K mg base) {x y : Str} (hx : excs.contains x = true) (hy : excs.contains y = true) : PySem.W.exmOne K (.ref (He.ga K x)) (.ref (He.ga K y)) = some (x == y) := by
  have h := (Bool.and_eq_true_iff.mp (Bool.and_eq_true_iff.mp (Bool.and_eq_true_iff.mp T.more).2).2).1
  exact of_decide_eq_true (List.all_eq_true.mp (List.all_eq_true.mp h x (List.contains_iff_mem.mp hx)) y (List.contains_iff_mem.mp hy))
theorem ents_find : ∀ (l : List DictEntry) (i : Int), l.all intEnt = true → ((l.filterMap entKV).find? fun e => e.1 == i).map (·.2) = (l.find? fun e => Value.isInt i e.key).map (·.val)
  | [], _, _ => rfl
  | e :: l, i, h => by
    rw [List.all_cons, Bool.and_eq_true] at h
    have ih := ents_find l i h.2
    have h1 := h.1
    unfold intEnt at h1
    cases ek : e.key with
    | int j t =>
      have e0 : entKV e = some (j, e.val) := by
        unfold entKV
        rw [ek]
      rw [List.filterMap_cons, e0]
      rw [List.find?_cons, List.find?_cons, ek]
      have e2 : Value.isInt i (Value.int j t) = (j == i) := rfl
      rw [e2]
      cases hji : (j == i) with
      | true => simp [hji]
      | false =>
        simp only [hji]
        exact ih
    | _ =>
      rw [ek] at h1
      cases h1
theorem ents_ok {x : Str} (h : entsOf K x ≠ []) : KInt K (He.ga K x) ∧ ∀ i, iGet K (He.ga K x) i = ((entsOf K x).find? fun e => e.1 == i).map (·.2) := by
  unfold entsOf at h
  split at h
  · rename_i c es n sl ho
    split at h
    · rename_i hc
      obtain ⟨rfl, h2, h3⟩ := hc
      have hsl : sl = #[] := Array.isEmpty_iff.mp h2
      subst hsl
      refine ⟨⟨es, n, ho, fun e he => List.all_eq_true.mp h3 e (Array.mem_toList_iff.mpr he)⟩, fun i => ?_⟩
      have e1 : entsOf K x = es.toList.filterMap entKV := by
        unfold entsOf
        rw [ho]
        dsimp only
        rw [if_pos ⟨rfl, h2, h3⟩]
      rw [e1, ents_find _ i h3]
      unfold iGet
      rw [ho]
      show findBy Value.isInt es i = _
      unfold findBy
      rw [← List.find?_toArray, Array.toArray_toList]
    · exact absurd rfl h
  · exact absurd rfl h
theorem Fx.shapes (T : Fx K mg base) : (entsOf K "SHAPES").map (fun e => (e.1, pairOf K e.2)) = shapes :=
  of_decide_eq_true (Bool.and_eq_true_iff.mp (Bool.and_eq_true_iff.mp (Bool.and_eq_true_iff.mp (Bool.and_eq_true_iff.mp T.more).2).2).2).1
theorem Fx.handlers (T : Fx K mg base) : entsOf K "HANDLERS" = handlers.map fun h => (h.1, .ref (He.ga K h.2)) := by
  have h := of_decide_eq_true (Bool.and_eq_true_iff.mp (Bool.and_eq_true_iff.mp (Bool.and_eq_true_iff.mp (Bool.and_eq_true_iff.mp T.more).2).2).2).2
  rw [show (fun (e : Int × Value) => (e.1, e.2)) = id from rfl, List.map_id] at h
  exact h
/-- a handler by its number -/
theorem Fx.handler (T : Fx K mg base) {i : Int} {x : Str} (h : (SJ.handlers.find? fun h => h.1 == i) = some (i, x)) : KInt K (He.ga K "HANDLERS") ∧ iGet K (He.ga K "HANDLERS") i = some (.ref (He.ga K x)) := by
  have ne : entsOf K "HANDLERS" ≠ [] := by
    rw [T.handlers]
    intro z
    have z2 := List.map_eq_nil_iff.mp z
    rw [z2] at h
    cases h
  obtain ⟨k, g⟩ := ents_ok ne
  refine ⟨k, ?_⟩
  rw [g, T.handlers, List.find?_map]
  have e : ((fun (e : Int × Value) => e.1 == i) ∘ fun (h : Int × Str) => (h.1, Value.ref (He.ga K h.2))) = fun h => h.1 == i := rfl
  rw [e, h]
  rfl
/-- a shape by its number -/
theorem Fx.shape (T : Fx K mg base) {i a b : Int} (h : (SJ.shapes.find? fun h => h.1 == i) = some (i, some (a, b))) : KInt K (He.ga K "SHAPES") ∧ ∃ t, iGet K (He.ga K "SHAPES") i = some (.ref t) ∧ ∀ H, SqT K H t [.int a, .int b] := by
  have ne : entsOf K "SHAPES" ≠ [] := by
    intro z
    have s := T.shapes
    rw [z] at s
    rw [← s] at h
    cases h
  obtain ⟨k, g⟩ := ents_ok ne
  refine ⟨k, ?_⟩
  rw [← T.shapes, List.find?_map] at h
  have e : ((fun (h : Int × Option (Int × Int)) => h.1 == i) ∘ fun (e : Int × Value) => (e.1, pairOf K e.2)) = fun e => e.1 == i := rfl
  rw [e] at h
  obtain ⟨⟨j, v⟩, h1, h2⟩ := Option.map_eq_some_iff.mp h
  have h3 : pairOf K v = some (a, b) := congrArg (fun z : Int × Option (Int × Int) => z.2) h2
  rw [g, h1]
  unfold pairOf at h3
  split at h3
  · rename_i t
    refine ⟨t, rfl, fun H => ?_⟩
    split at h3
    · rename_i c od its n sl ho
      split at h3
      · rename_i i0 t0 j0 t1 hit
        split at h3
        · rename_i hc
          subst hc
          cases h3
          refine .inr ⟨_, its, n, ho, rfl, rfl, ?_, ?_⟩
          · have : its.size = 2 := by rw [← Array.length_toList, hit]; rfl
            rw [this, sizeLine_eq]
            omega
          · rw [hit]
            exact .cons ⟨_, rfl⟩ (.cons ⟨_, rfl⟩ .nil)
        · cases h3
      · cases h3
    · cases h3
  · cases h3
end
end SJ
end
section
set_option Elab.async false
set_option linter.all false
set_option maxRecDepth 100000
set_option maxHeartbeats 4000000
namespace SJ
open PySem PySem.Spec PyProof.Rows L2
/-! ## a name of the def that holds one of several defs, which may raise -/
section
variable (P : Program) (w : World) (K : PySem.W.Frag) (mg : Str → Option Value) (base : Heap)
structure HeldX (k : Nat) (f : Addr) (sp : Sp) : Prop where
  ex : ∃ (fd : FuncData) (ps : List Str), FnOk P w K mg base (L2.CX P w) k f fd ps sp ∧ PySem.W.keepIn K (.ref f) = true ∧ Binds K fd ps []
/-- a method of the class named c; it raises nothing | may raise -/
structure Mt0 (k : Nat) (c m : Str) (sp : Sp) : Prop where
  ex : ∃ (f : Addr) (fd : FuncData) (ps : List Str), Cls K (He.ga K c) ∧ Meth K (He.ga K c) m f ∧ FnOk P w K mg base CX0 k f fd ps sp ∧ Binds K fd ps []
structure MtX (k : Nat) (c m : Str) (sp : Sp) : Prop where
  ex : ∃ (f : Addr) (fd : FuncData) (ps : List Str), Cls K (He.ga K c) ∧ Meth K (He.ga K c) m f ∧ FnOk P w K mg base (L2.CX P w) k f fd ps sp ∧ Binds K fd ps []
end
def tCallH (i : Nat) (S : Addr → Option Sp) (W : WX) (t : TA) : TE := fun r h Q => ∃ f sp, r[i]? = some (some (.ref f)) ∧ S f = some sp ∧ t r h fun vs h1 => sp vs h1 Q (WE W r)
/-- o.m() that may raise -/
def tMethX (C : Addr) (m : Str) (sp : Sp) (W : WX) (ta : TE) : TE := fun r h Q => ta r h fun x h1 => ∃ a dx fs, x = .ref a ∧ h1 a = some (.ins C dx fs) ∧ fs.lookup m = none ∧ sp [x] h1 Q (WE W r)
section
variable {X : Cx} {k j i : Nat} {x c m : Str} {sp : Sp} {W : WX} {e o : Expr} {es : List Expr} {p pos apos : Pos} {t : TA} {ta : TE}
theorem pe_callH {S : Addr → Option Sp} (A : ∀ f sp, S f = some sp → HeldX X.prog X.w X.K X.mg X.base k f sp) (hr : Room j X.A) (hkj : k ≤ j) (hN : X.N[i]? = some x) (hv : Vis X.env.scope x) (tk : Takes X W) (ha : PA X (e :: es) t)
    (hdb : (x == ("__debug__" : Str)) = false := by decide) (hcd : (x == ("__classdict__" : Str)) = false := by decide)
    (he : starEach (e :: es) X.env = (false, eval e X.env) :: starEach es X.env := by rfl) (hpl : (backTo pos (starEach es X.env)).any (·.1) = false := by rfl) :
    PE X (.Call (.Name x p) (e :: es) [] pos) (tCallH i S W t) := by
  refine ⟨fun pins s r h Q I rd => ?_⟩
  obtain ⟨f, sp, hs, hS, ht⟩ := rd
  obtain ⟨fd, ps, F, kp, hb⟩ := (A f sp hS).ex
  refine wpAny_Call_Name_kw (thn ((pe_var (pos := p) hN hv hdb hcd).run pins s r h (fun v h1 => v = .ref f ∧ h1 = h) I ⟨.ref f, hs, rfl, rfl⟩) fun u s1 ⟨v, h1, I1, r1, q1⟩ => ?_)
  obtain ⟨rfl, rfl⟩ := q1
  cases r1
  refine PySem.W.callWith_K (h₀ := X.base) I.ok.mod.kin kp
    (thn (ha.run pos pins s1 r _ _ I1 ht) fun us s2 ⟨vs, h2, I2, rr, q⟩ => ⟨I2.kIn, ?_⟩) he hpl
  exact run_fnS (E := WE W) F (hr.mono hkj) hb (passAt tk r) I2 rr q
theorem pe_m00 (q : Mt0 X.prog X.w X.K X.mg X.base k c m sp) (hr : Room j X.A) (hkj : k ≤ j) (ho : PE X o ta) {pl : Sem Bool} (ht : eval (.Call (.Attribute o m apos) [] [] pos) X.env = (do let ov ← eval o X.env; standAt apos.atName; let (g, first) ← holding [ov] (getMethod ov m pl); callWith pos g first (backTo pos (starEach [] X.env)) (backToKw pos (keywordEach [] X.env))) := by rfl) :
    PE X (.Call (.Attribute o m apos) [] [] pos) (tMeth (He.ga X.K c) m sp [] E0 ta tNil) := by
  obtain ⟨f, fd, ps, cl, me, F, hb⟩ := q.ex
  exact pe_meth0 ho cl me F (hr.mono hkj) hb .nil pass0 (ht := ht)
theorem pe_mx0 (q : MtX X.prog X.w X.K X.mg X.base k c m sp) (hr : Room j X.A) (hkj : k ≤ j) (ho : PE X o ta) (tk : Takes X W) {pl : Sem Bool} (ht : eval (.Call (.Attribute o m apos) [] [] pos) X.env = (do let ov ← eval o X.env; standAt apos.atName; let (g, first) ← holding [ov] (getMethod ov m pl); callWith pos g first (backTo pos (starEach [] X.env)) (backToKw pos (keywordEach [] X.env))) := by rfl) :
    PE X (.Call (.Attribute o m apos) [] [] pos) (tMethX (He.ga X.K c) m sp W ta) := by
  obtain ⟨f, fd, ps, cl, me, F, hb⟩ := q.ex
  refine ⟨fun pins s r h Q I rd => ?_⟩
  refine PySem.W.methodCall_KW (pl := pl) (thn (ho.run pins s r h _ I rd) fun u s1 ⟨x, h1, I1, rx, a, dx, fs, ex, ea, l, q⟩ => ?_) ht
  subst ex
  obtain rfl : u = Value.ref a := rx
  refine getmeth_ok I1 ea cl me l (PySem.W.callWith_K0 (first := [.ref a]) I1.kIn me.kp ?_)
  exact run_fnS (E := WE W) (us := [.ref a]) (vs := [.ref a]) F (hr.mono hkj) hb (passAt tk r) I1 (.cons rfl .nil) q
theorem pe_k00 (q : Mk0 X.prog X.w X.K X.mg X.base k x sp) (hr : Room j X.A) (hkj : k + 1 ≤ j) (hg : Gl X x) (hdb : (x == ("__debug__" : Str)) = false := by decide) :
    PE X (.Call (.Name x p) [] [] pos) (tMake (He.ga X.K x) sp [] E0 tNil) := by
  obtain ⟨f, fd, ps, M, F, hm, hb⟩ := q.ex
  exact pe_make0 M F (hr.mono hkj) hg hm hb .nil pass0 hdb
end
end SJ
end
section
set_option Elab.async false
set_option linter.all false
set_option maxRecDepth 100000
set_option maxHeartbeats 4000000
/-! sorted(range(n), key=lambda x: d[x].f, reverse=True) and min(xs, key=lambda x: d[x].f) -/
namespace SJ
open PySem PySem.Spec PyProof.Rows L2
open PySem.W (kla_obj kla_fn envX)
/-- the lambda's body: d[x].f -/
abbrev lamB (d x f : Str) (p1 p2 p3 p4 : Pos) : Expr := .Attribute (.Subscript (.Name d p1) (.Name x p2) p3) f p4
/-- a lambda of one parameter x that reads the captured d -/
structure LamSc (scope : Scope) (d x : Str) : Prop where
  kind : scope.kind = .function
  co : scope.isCoroutine = false
  gen : scope.isGenerator = false
  px : scope.names.lookup x = some .local
  pd : scope.names.lookup d = some .free
  nc : ∀ y ∈ scope.names, y.2 ≠ .cell
  dd : (d == ("__debug__" : Str)) = false
  dx : (x == ("__debug__" : Str)) = false
  dc : (d == ("__classdict__" : Str)) = false
section
variable {prog : Program} {w : World} {A : Around} {E : Value → Shared → Prop} {s : Shared} {K : PySem.W.Frag}
theorem lam_call {q d x f : Str} {params : Arguments} {scope : Scope} {p1 p2 p3 p4 : Pos} {pm ctv : Value} {fA c' cl l a dx C : Addr} {vs : List Value} {i : Nat} {tk t : Tok} {n : Int} {mA : Str → Option Value} {Q : Value → Shared → Prop}
    (S : LamSc scope d x) (X : K.In s.heap) (hlim : s.heap.NoLimit) (hf : s.heap.get? fA = some (kla_obj "<lambda>" q params (lamB d x f p1 p2 p3 p4) scope [(d, cl)] pm c' ctv))
    (hco : s.heap.CodeRec (.ref c') q) (hb : ∀ v, bindArgs (kla_fn "<lambda>" q params (lamB d x f p1 p2 p3 p4) scope [(d, cl)] pm (.ref c') ctv) ⟨[v], []⟩ = pure [(x, v)])
    (hcell : s.heap.IsCell cl (some (.ref l))) (hl : s.heap.IsList l vs.toArray) (hi : vs[i]? = some (.ref a)) (hbig : (i : Int) < 2 ^ 63) (O : ObjM s.heap a dx C mA) (c : Cls K C) (nf : NoAttr K C f) (hv : mA f = some (.int n t)) (hroom : A.depth < recursionLimit)
    (h : ∀ (h' : Heap) (tk' : Nat), (∀ b o, s.heap.get? b = some o → h'.get? b = some o) → Q (.int n t) { s with heap := h', toks := tk' }) :
    wpAny (model prog w) A (call (.ref fA) [.int i tk]) Q E s := by
  refine wpAny_call (PySem.W.kla_callFunE hroom hf rfl S.co S.gen rfl hco ?_)
  rw [hb]
  refine wpAny_pure (wpAny_newFunctionEnv S.nc (fun y hy => ?_) (fun h₁ hns hsb => ⟨hlim.fresh _ hsb, ?_⟩) S.kind)
  · have : y = (x, Value.int i tk) := by simpa using hy
    rw [this]
    exact S.px
  show codeAny _ _ (.expr _ (envX q scope s.heap.objs.size fA (.ref c') [(d, cl)])) _ _
  have kp : ∀ b o, s.heap.get? b = some o → h₁.get? b = some o := fun b o e => hsb.extBut b o (Nat.ne_of_lt (Heap.lt_size e)) (Heap.get?_push_of_some _ e)
  refine PySem.W.kla_codeExpr ?_
  refine attr_of rfl (Subscript_ ?_)
  have hcell1 : h₁.IsCell cl (some (.ref l)) := let ⟨o, e, z⟩ := hcell; ⟨o, kp _ _ e, z⟩
  refine wpAny_Name (wpAny_loadName_free S.kind S.pd (by simp [PySem.W.envX]) hcell1 ?_ S.dc) S.dd
  refine wpAny_Name (wpAny_loadName_local (v := .int i tk) S.kind S.px hns (by simp) ?_) S.dx
  have hl1 : h₁.IsList l vs.toArray := let ⟨o, e, z⟩ := hl; ⟨o, kp _ _ e, z⟩
  refine item_listR hl1 (by omega) hbig (by simpa using hi) ?_
  have O1 : ObjM h₁ a dx C mA := ⟨kp _ _ O.obj, O.ns.at fun o e => kp _ _ e, O.ne⟩
  exact get_map (X.keeps kp) O1 (c.get f) c.hd nf hv rfl (h h₁ _ kp)
/-- the values of a range's list -/
def IsI (v : Value) (i : Nat) : Prop := ∃ t, v = .int (i : Int) t
theorem each_range {acc : Array Value} {n : Nat} (hi : ItemsOf (fun i v => ∃ t, v = .int ((0 : Int) + i * 1) t) acc n) : PySem.W.EachIs IsI acc.toList (List.range n) := by
  have gen : ∀ (l : List Value) (m : Nat), (∀ j v, l[j]? = some v → IsI v (m + j)) → PySem.W.EachIs IsI l (List.range' m l.length) := by
    intro l
    induction l with
    | nil => exact fun _ _ => .nil
    | cons a l ih =>
      intro m h
      rw [List.length_cons, List.range'_succ]
      exact .cons (h 0 a rfl) (ih (m + 1) fun j v e => by
        have := h (j + 1) v (by simpa using e)
        rw [show m + 1 + j = m + (j + 1) by omega]
        exact this)
  have hl : acc.toList.length = n := by rw [Array.length_toList]; exact hi.1
  have := gen acc.toList 0 fun j v e => by
    obtain ⟨t, ht⟩ := hi.2 j v (by simpa using e)
    exact ⟨t, by rw [ht]; congr 1; omega⟩
  rw [hl, ← List.range_eq_range'] at this
  exact this
theorem sorted_range {r fA : Addr} {t u v : Tok} {n : Nat} {Q : Value → Shared → Prop} (k : Nat → Int) (hh : A.handled = none) (hr : IsRange s.heap r 0 n 1 t u v) (hn : n ≤ 1000) (hu : A.units + 3 < cLine)
    (turn : ∀ (i : Nat) (t : Tok), i < n → ∀ (h : Heap) (tk : Nat), (∀ b o, s.heap.get? b = some o → h.get? b = some o) →
      wpAny (model prog w) A.in1.in1 (call (.ref fA) [.int i t]) (PySem.W.KeyPure (.int (k i)) { s with heap := h, toks := tk }) (fun _ _ => False) { s with heap := h, toks := tk })
    (h : ∀ out (h1 : Heap) c h' tk, (∀ b o, s.heap.get? b = some o → h1.get? b = some o) → (∀ b o, h1.get? b = some o → h'.get? b = some o) → h'.get? h1.objs.size = some (seqObj "list" (List.toArray out) c) → out.length = n →
      PySem.W.EachIs IsI out ((List.range n).mergeSort fun a b => decide (k b ≤ k a)) → Q (.ref h1.objs.size) { s with heap := h', toks := tk }) :
    wpAny (model prog w) A (call (.builtin "sorted") [.ref r] [(Str.ofString "key", .ref fA), (Str.ofString "reverse", .bool true)]) Q E s := by
  refine call_function_entry_kw kind_sorted plain_sorted entry_sorted (ksk_s2 _ _ _) ?_
  unfold Builtin.«sorted»
  refine wpAny_bind (m := checkCount "sorted" 1 1 _) (wpAny_pure ?_)
  have small : Builtin.Range.small 0 n 1 = true := small_one (by decide) (by decide) (by omega) (by omega)
  have size : Builtin.Range.rangeSize 0 n 1 = n := by
    rw [rangeSize_nat]
    omega
  refine wpAny_bind (collect_range (n := n) (A := A.in1) hh hr small size (by omega) fun h1 tk1 acc k1 hi => ?_)
  have hlen : acc.toList.length = n := by rw [Array.length_toList]; exact hi.1
  have hlin : acc.toList.length ≤ sizeLine := by
    rw [hlen]
    exact Nat.le_of_lt (small1000 hn)
  refine wpAny_bind (wpAny_newList ?_ hlin)
  have at1 : (h1.push { cls := .type "list", data := .seq acc.toList.toArray }).get? h1.objs.size = some (seqObj "list" acc.toList.toArray 0) := Heap.get?_push_size _ rfl
  have up1 : ∀ {h : Heap}, PySem.W.KeepsBut h1.objs.size (h1.push { cls := .type "list", data := .seq acc.toList.toArray }) h → ∀ b o, h1.get? b = some o → h.get? b = some o := fun {h} kp b o e =>
    kp b o (Nat.ne_of_lt (Heap.lt_size e)) (Heap.get?_push_of_some _ e)
  have dep : ∀ i : Nat, (PyData.int (k i)).depth = 0 := fun _ => rfl
  refine wpAny_bind (wpAny_holding ?_)
  refine PySem.W.list_sort_key_data (bs := List.range n) (R := IsI) (b := true) (f := .ref fA) (fun i => .int (k i)) at1 (each_range hi) (PySem.W.AllAlike.of fun _ _ => rfl) (PySem.W.Sortable.others fun _ => ⟨fun z => (nomatch z), fun _ z => (nomatch z)⟩) (by rw [List.length_range]; exact Nat.le_of_lt (small1000 hn))
    (fun i _ => by rw [dep]; show A.units + 1 + 1 + 0 < cLine; omega) (ksk_l2 _ _ _) (ksk_t2 _ _ _) (fun vv i hv hm h2 tk2 kp => ?_) (fun out c h2 tk2 kp hD hl ea => ?_)
  · obtain ⟨tt, rfl⟩ := hv
    exact turn i tt (List.mem_range.mp hm) h2 tk2 fun b o e => up1 kp b o (k1 b o e)
  · rw [PySem.W.dataGe_int] at ea
    exact wpAny_pure ⟨_, rfl, h out h1 c h2 tk2 k1 (up1 kp) hD (by rw [hl, List.length_range]) ea⟩
/-- min(xs, key=f): the first item whose key is the least -/
theorem min_list {l fA : Addr} {vs : List Value} {Q : Value → Shared → Prop} (kf : Nat → Int) (hh : A.handled = none) (hl : s.heap.IsList l vs.toArray) (h0 : 0 < vs.length)
    (turn : ∀ (i : Nat) (v : Value), vs[i]? = some v → ∀ (h : Heap) (tk : Nat), (∀ b o, s.heap.get? b = some o → h.get? b = some o) →
      wpAny (model prog w) A.in1 (call (.ref fA) [v]) (PySem.W.KeyPure (.int (kf i)) { s with heap := h, toks := tk }) (fun _ _ => False) { s with heap := h, toks := tk })
    (h : ∀ v h' tk, vs[argBest (fun a b => decide (kf a < kf b)) (vs.length - 1)]? = some v → (∀ b o, s.heap.get? b = some o → h'.get? b = some o) → Q v { s with heap := h', toks := tk }) :
    wpAny (model prog w) A (call (.builtin "min") [.ref l] [(Str.ofString "key", .ref fA)]) Q E s := by
  obtain ⟨hp, g, d, t, os⟩ := s
  have low : ∀ {b : Addr} {o : Obj}, hp.get? b = some o → b < hp.objs.size := fun e => Heap.lt_size e
  have hlt : l < hp.objs.size := let ⟨o, e, _⟩ := hl; low e
  refine call_min_walkK (wpAny_pyIter_list hl ?_)
  have hit : (hp.push { cls := .type "list_iterator", data := .fields #[.ref l, .int 0 0] }).IsListIter hp.objs.size l 0 := ⟨_, Heap.get?_push_size _ rfl, rfl, rfl⟩
  have hl2 : (hp.push { cls := .type "list_iterator", data := .fields #[.ref l, .int 0 0] }).IsList l vs.toArray := let ⟨o, e, z⟩ := hl; ⟨o, Heap.get?_push_of_some _ e, z⟩
  have big : (hp.push { cls := .type "list_iterator", data := .fields #[.ref l, .int 0 0] }).objs.size = hp.objs.size + 1 := by rw [Heap.size_push]
  refine ⟨hp.objs.size, _, _, _, _, _, _, (fun s' => (∀ b o, hp.get? b = some o → s'.heap.get? b = some o) ∧ s'.gens = g ∧ s'.drawn = d ∧ s'.os = os), (fun i k _ => ∃ tk, k = .int (kf i) tk), (fun a b => decide (kf a < kf b)), rfl,
    (Walks.list (A := A.in1) hh hp.objs.size l (Nat.ne_of_lt hlt) vs.toArray).toS, ⟨hit, hl2⟩, ?_, by simpa using h0, ⟨?_, ?_, ?_, ?_⟩, ⟨fun b o e => Heap.get?_push_of_some _ e, rfl, rfl, rfl⟩, ?_⟩
  · intro b hb
    show b < (hp.push _).objs.size
    rw [big]
    rcases List.mem_cons.mp hb with rfl | hb
    · exact Nat.lt_succ_self _
    · obtain rfl : b = l := by simpa using hb
      exact Nat.lt_succ_of_lt hlt
  · rintro s1 s2 ⟨k1, g1, d1, o1⟩ M
    refine ⟨fun b o e => M.heap b o ?_ (k1 b o e), by rw [M.gens, g1], by rw [M.drawn, d1], by rw [M.os, o1]⟩
    have hb := low e
    show b ∉ (hp.push _).objs.size :: _
    rw [big]
    intro hm
    rcases List.mem_cons.mp hm with rfl | hm
    · exact absurd hb (Nat.not_lt.mpr (Nat.le_succ _))
    · obtain rfl : b = hp.objs.size := by simpa using hm
      exact absurd hb (Nat.lt_irrefl _)
  · rintro i k s1 s2 hv _
    exact hv
  · rintro i v s1 o Q1 E1 hi hv ⟨k1, g1, d1, o1⟩ st hS q
    obtain ⟨h1, g', d', t1, os'⟩ := s1
    obtain rfl : g' = g := g1
    obtain rfl : d' = d := d1
    obtain rfl : os' = os := o1
    refine wpAny_mono (turn i v (by simpa using hv) h1 t1 k1) (fun k s2 hk => ?_) (fun _ _ z => z.elim)
    obtain ⟨h2, t2, rfl, k2, rd⟩ := hk
    refine q k _ ⟨fun b o e => k2 b o (k1 b o e), rfl, rfl, rfl⟩ ?_ (k2 _ _ hS) ?_ (fun _ _ z => z)
    · exact ⟨st.1.at fun o e => k2 _ _ e, st.2.at fun o e => k2 _ _ e⟩
    · cases rd
      exact ⟨_, rfl⟩
  · rintro i j ki kj s1 Q1 E1 _ hk1 hk2 q
    exact CmpOf.ints_lt (P := fun i v => ∃ t, v = .int (kf i) t) kf (fun _ _ h => h) i j _ _ _ _ _ hk1 hk2 q
  · rintro v s1 hv ⟨k1, g1, d1, o1⟩
    obtain ⟨h1, g', d', t1, os'⟩ := s1
    obtain rfl : g' = g := g1
    obtain rfl : d' = d := d1
    obtain rfl : os' = os := o1
    refine h v h1 t1 ?_ k1
    simpa using hv
end
section
open LamX
variable {X : Cx}
theorem cr_range1 : CallR X (.type "range") (fun vs H Q => ∃ j, vs = [V.int j] ∧ ∀ p, H p = none → Q (.ref p) (upd H p (.rng 0 j))) := by
  intro pins s σ H xs us Q I r h
  obtain ⟨j, rfl, q⟩ := h
  obtain ⟨t, rfl⟩ : ∃ t, us = [Value.int j t] := by
    cases r with
    | cons a b =>
      cases b
      obtain ⟨t, rfl⟩ := a
      exact ⟨t, rfl⟩
  refine call_range_1 ⟨.ref s.heap.objs.size, upd H s.heap.objs.size (.rng 0 j), I.laid (t' := s.toks + 1 + 1) (fun b o e => Heap.get?_push_of_some _ e) (Nat.le_refl _) ?_, rfl, q _ (I.hok.fresh (Nat.le_refl _))⟩
  exact ⟨_, t, _, Heap.get?_push_size _ rfl⟩
/-- what a key of d[x].f asks: slot i holds the list d, of instances with an int f -/
def KeysAt (K : PySem.W.Frag) (f : Str) (H : Hp) (xs : List V) (key : Nat → Int) : Prop := ∀ j : Nat, j < xs.length → ∃ a C dx fs, xs[j]? = some (.ref a) ∧ H a = some (.ins C dx fs) ∧ Cls K C ∧ NoAttr K C f ∧ fs.lookup f = some (.int (key j))
def tSortL (K : PySem.W.Frag) (T : List (Addr × Str)) (i : Nat) (f : Str) (ta : TA) : TE := fun σ H Q => ta σ H fun vs H1 => ∃ (r l : Addr) (n : Nat) (xs : List V) (key : Nat → Int), vs = [.ref r] ∧ H1 r = some (.rng 0 n) ∧ n ≤ 1000 ∧ n ≤ xs.length ∧
  σ[i]? = some (some (.ref l)) ∧ SqL K H1 l xs ∧ KeysAt K f H1 xs key ∧ Tabs T H1 ∧ ∀ H2, ExtN H1 H2 → Tabs T H2 → ∀ p, H2 p = none → Q (.ref p) (upd H2 p (.lst (((List.range n).mergeSort fun a b => decide (key b ≤ key a)).map fun (m : Nat) => V.int m)))
theorem pe_sortedLam {T : List (Addr × Str)} {c P : Addr} {k i : Nat} {d x f : Str} {params : Arguments} {scope : Scope} {e : Expr} {ta : TA} {j : Nat} {p lp kp1 kp2 p1 p2 p3 p4 p5 pos : Pos} (S : LamSc scope d x) (hc : X.calm = true) (hr : Room k X.A) (hg : Gl X "sorted") (hm : X.mg "sorted" = none)
    (ha : PA X [e] ta) (TB : TabB X.base X.mg c P) (hcode : X.env.code = .ref c) (hmT : (P, X.env.qual ++ "<lambda>") ∈ T) (huT : ∀ p ∈ T, p.1 = P → p.2 = X.env.qual ++ "<lambda>") (hdef : defaultsOf params X.env = ([], []))
    (hN : X.N[i]? = some d) (hk : X.env.scope.names.lookup d = some .cell) (hclo : ∀ cl, X.env.cells.lookup d = some cl → cloFrom X.env.cells scope.names [] = [(d, cl)]) (hfr : ∀ y ∈ scope.names, y.2 = .free → y.1 = d)
    (hb : ∀ q cl pm c' ctv v, bindArgs (kla_fn "<lambda>" q params (lamB d x f p1 p2 p3 p4) scope [(d, cl)] pm (.ref c') ctv) ⟨[v], []⟩ = pure [(x, v)])
    (he : backTo pos (starEach [e] X.env) = (false, eval e X.env) :: backTo pos (starEach [] X.env) := by rfl) (hpl : (backTo pos (starEach [e] X.env)).any (·.1) = false := by rfl) :
    PE X (.Call (.Name "sorted" p) [e] [⟨some "key", .Lambda params (lamB d x f p1 p2 p3 p4) scope lp, kp1⟩, ⟨some "reverse", .Constant (.bool true) j p5, kp2⟩] pos) (tSortL X.K T i f ta) := by
  refine ⟨fun pins s σ H Q I h => ?_⟩
  refine wpAny_Call_Name_kw (ld_blt I hg hm (by decide +kernel : bootBuiltins "sorted" = some (.builtin "sorted")) ?_ (by decide) (by decide))
  refine PyProof.Rows.callWith_kw (thn (ha.run pos pins s σ H _ I h) fun us s1 ⟨vs, H1, I1, r1, q1⟩ => ?_) he hpl rfl rfl
  obtain ⟨r, l, n, xs, key, rfl, hrng, hn, hxs, hsl, hsq, hkeys, hT, fin⟩ := q1
  obtain rfl := Vals.ref1 r1
  obtain ⟨cl, hcl⟩ := I1.ok.has d (.inl hk)
  refine wpAny_evalAll_cons (wpAny_bind (lam_make2 I1 TB hcode hmT huT hT hdef (fun y hy e => ?_) fun fA c' pm ctv H2 s2 I2 hE hT2 hf hfn hfst hco => ?_))
  · rw [hfr y hy e]
    exact ⟨cl, hcl⟩
  refine wpAny_bind (wpAny_standAt (wpAny_pure ?_))
  refine wpAny_evalAll_cons (wpAny_bind (Constant_bool (wpAny_bind (wpAny_standAt (wpAny_pure (wpAny_evalAll_nil ?_))))))
  show wpAny _ _ (call (.builtin "sorted") [.ref r] [(Str.ofString "key", .ref fA), (Str.ofString "reverse", .bool true)]) _ _ _
  have hcl2 := hclo cl hcl
  rw [hcl2] at hf
  -- what stands there
  have notTbl : ∀ {o : HO} {b : Addr}, (∀ ps, o ≠ .tbl ps) → H1 b = some o → H2 b = some o := fun {o b} hne e => hE b o e hne
  have rng2 : H2 r = some (.rng 0 n) := notTbl (fun _ z => by cases z) hrng
  obtain ⟨t, u, v, gr⟩ := (show ObjOk X.prog X.w H2 s2.heap r (.rng 0 n) from I2.hok r _ rng2)
  have sq2 : SqL X.K H2 l xs := by
    rcases hsq with (e | ⟨o, e⟩) | e
    · exact .inl (.inl (notTbl (fun _ z => by cases z) e))
    · exact .inl (.inr ⟨o, notTbl (fun _ z => by cases z) e⟩)
    · exact .inr e
  obtain ⟨its, rits, hit, hsz⟩ := I2.list sq2
  obtain ⟨m, hn2, hlo⟩ := I2.loc
  obtain ⟨ul, rl, hul⟩ := hlo i d _ hN hsl (.inr (.inl hk))
  obtain rfl : ul = Value.ref l := rl
  have hcell : s2.heap.IsCell cl (some (.ref l)) := by
    rcases hul with ⟨z, _⟩ | ⟨_, c0, e0, z⟩
    · have z : X.env.scope.names.lookup d = some .local := z
      rw [hk] at z
      cases z
    · rw [hcl] at e0
      cases e0
      exact z
  obtain ⟨⟨oc, ovs, ot, hoc, hdc, hvc⟩, _, _⟩ := I2.hok c' _ hco
  refine sorted_range (A := X.A) key (I2.ok.hd hc) gr hn (by have := hr.un; omega) (fun b tb hb2 hh htk hkeep => ?_) (fun out h1 cc h' tk' k1 k2 hat hlen hea => ?_)
  · obtain ⟨a, C, dx, fs, ex, ea, cls, na, lk⟩ := hkeys b (by omega)
    have ea2 : H2 a = some (.ins C dx fs) := notTbl (fun _ z => by cases z) ea
    obtain ⟨mA, O, rel, _, _, _⟩ := ins_get I2.hok ea2
    obtain ⟨uu, hu, ru⟩ := RelO.some_of (v := .int (key b)) (o := mA f) (by rw [← lk]; exact rel f)
    obtain ⟨tt, rfl⟩ := ru
    obtain ⟨w0, ew, rw0⟩ := rits.get ex
    obtain rfl : w0 = Value.ref a := rw0
    have O1 : ObjM hh a dx C mA := ⟨hkeep _ _ O.obj, O.ns.at fun o e => hkeep _ _ e, O.ne⟩
    refine lam_call (s := { s2 with heap := hh, toks := htk }) (K := X.K) S (I2.kIn.keeps hkeep) (I2.nolimit.keeps hkeep) (hkeep _ _ hf) ⟨c', oc, ovs, ot, rfl, hkeep _ _ hoc, hdc, hvc⟩ (hb _ cl pm c' ctv) (let ⟨o, e, z⟩ := hcell; ⟨o, hkeep _ _ e, z⟩)
      (vs := its) (let ⟨o, e, z⟩ := hit.isList; ⟨o, hkeep _ _ e, z⟩) ew (show (b : Int) < 2 ^ 63 by omega) O1 cls na hu (by have := hr.dp; show X.A.depth < _; omega) fun h3 tk3 k3 => ?_
    exact ⟨h3, tk3, rfl, k3, .int _ _⟩
  · have I3 : Inv X pins σ H2 { s2 with heap := h1, toks := s2.toks } := I2.kept k1
    have vals : Vals (((List.range n).mergeSort fun a b => decide (key b ≤ key a)).map fun (m : Nat) => V.int m) out := by
      have gen : ∀ {vs : List Value} {ms : List Nat}, PySem.W.EachIs IsI vs ms → Vals (ms.map fun (m : Nat) => V.int m) vs := by
        intro vs ms h
        induction h with
        | nil => exact .nil
        | cons a _ ih => exact .cons a ih
      exact gen hea
    have ll : (((List.range n).mergeSort fun a b => decide (key b ≤ key a)).map fun (m : Nat) => V.int m).length ≤ sizeLine := by
      rw [vals.length, hlen]
      exact Nat.le_of_lt (small1000 hn)
    exact ⟨.ref h1.objs.size, upd H2 h1.objs.size (.lst _), I3.laid (t' := tk') k2 (Nat.le_refl _) ⟨ll, out, cc, vals, hat⟩, rfl, fin H2 hE hT2 _ (I3.hok.fresh (Nat.le_refl _))⟩
def tMinL (K : PySem.W.Frag) (T : List (Addr × Str)) (i : Nat) (f : Str) (ta : TA) : TE := fun σ H Q => ta σ H fun vs H1 => ∃ (r l : Addr) (gs : List Nat) (xs : List V) (key : Nat → Int), vs = [.ref r] ∧ SqL K H1 r (gs.map fun (m : Nat) => V.int m) ∧ 0 < gs.length ∧ (∀ m ∈ gs, m < xs.length) ∧ xs.length ≤ 1000 ∧
  σ[i]? = some (some (.ref l)) ∧ SqL K H1 l xs ∧ KeysAt K f H1 xs key ∧ Tabs T H1 ∧
  ∀ H2, ExtN H1 H2 → Tabs T H2 → ∀ m, gs[argBest (fun a b => decide (key (gs.getD a 0) < key (gs.getD b 0))) (gs.length - 1)]? = some m → Q (.int m) H2
theorem pe_minLam {T : List (Addr × Str)} {c P : Addr} {k i : Nat} {d x f : Str} {params : Arguments} {scope : Scope} {e : Expr} {ta : TA} {p lp kp1 p1 p2 p3 p4 pos : Pos} (S : LamSc scope d x) (hc : X.calm = true) (hr : Room k X.A) (hg : Gl X "min") (hm : X.mg "min" = none)
    (ha : PA X [e] ta) (TB : TabB X.base X.mg c P) (hcode : X.env.code = .ref c) (hmT : (P, X.env.qual ++ "<lambda>") ∈ T) (huT : ∀ p ∈ T, p.1 = P → p.2 = X.env.qual ++ "<lambda>") (hdef : defaultsOf params X.env = ([], []))
    (hN : X.N[i]? = some d) (hk : X.env.scope.names.lookup d = some .cell) (hclo : ∀ cl, X.env.cells.lookup d = some cl → cloFrom X.env.cells scope.names [] = [(d, cl)]) (hfr : ∀ y ∈ scope.names, y.2 = .free → y.1 = d)
    (hb : ∀ q cl pm c' ctv v, bindArgs (kla_fn "<lambda>" q params (lamB d x f p1 p2 p3 p4) scope [(d, cl)] pm (.ref c') ctv) ⟨[v], []⟩ = pure [(x, v)])
    (he : backTo pos (starEach [e] X.env) = (false, eval e X.env) :: backTo pos (starEach [] X.env) := by rfl) (hpl : (backTo pos (starEach [e] X.env)).any (·.1) = false := by rfl) :
    PE X (.Call (.Name "min" p) [e] [⟨some "key", .Lambda params (lamB d x f p1 p2 p3 p4) scope lp, kp1⟩] pos) (tMinL X.K T i f ta) := by
  refine ⟨fun pins s σ H Q I h => ?_⟩
  refine wpAny_Call_Name_kw (ld_blt I hg hm (by decide +kernel : bootBuiltins "min" = some (.builtin "min")) ?_ (by decide) (by decide))
  refine PyProof.Rows.callWith_kw (thn (ha.run pos pins s σ H _ I h) fun us s1 ⟨vs, H1, I1, r1, q1⟩ => ?_) he hpl rfl rfl
  obtain ⟨r, l, gs, xs, key, rfl, hgs, h0, hin, hn, hsl, hsq, hkeys, hT, fin⟩ := q1
  obtain rfl := Vals.ref1 r1
  obtain ⟨cl, hcl⟩ := I1.ok.has d (.inl hk)
  refine wpAny_evalAll_cons (wpAny_bind (lam_make2 I1 TB hcode hmT huT hT hdef (fun y hy e => ?_) fun fA c' pm ctv H2 s2 I2 hE hT2 hf hfn hfst hco => ?_))
  · rw [hfr y hy e]
    exact ⟨cl, hcl⟩
  refine wpAny_bind (wpAny_standAt (wpAny_pure (wpAny_evalAll_nil ?_)))
  show wpAny _ _ (call (.builtin "min") [.ref r] [(Str.ofString "key", .ref fA)]) _ _ _
  have hcl2 := hclo cl hcl
  rw [hcl2] at hf
  have notTbl : ∀ {o : HO} {b : Addr}, (∀ ps, o ≠ .tbl ps) → H1 b = some o → H2 b = some o := fun {o b} hne e => hE b o e hne
  have sqs : ∀ {l : Addr} {xs : List V}, SqL X.K H1 l xs → SqL X.K H2 l xs := fun {l xs} hsq => by
    rcases hsq with (e | ⟨o, e⟩) | e
    · exact .inl (.inl (notTbl (fun _ z => by cases z) e))
    · exact .inl (.inr ⟨o, notTbl (fun _ z => by cases z) e⟩)
    · exact .inr e
  obtain ⟨its, rits, hit, hsz⟩ := I2.list (sqs hsq)
  obtain ⟨gts, rgts, hgt, hgz⟩ := I2.list (sqs hgs)
  obtain ⟨m, hn2, hlo⟩ := I2.loc
  obtain ⟨ul, rl, hul⟩ := hlo i d _ hN hsl (.inr (.inl hk))
  obtain rfl : ul = Value.ref l := rl
  have hcell : s2.heap.IsCell cl (some (.ref l)) := by
    rcases hul with ⟨z, _⟩ | ⟨_, c0, e0, z⟩
    · have z : X.env.scope.names.lookup d = some .local := z
      rw [hk] at z
      cases z
    · rw [hcl] at e0
      cases e0
      exact z
  obtain ⟨⟨oc, ovs, ot, hoc, hdc, hvc⟩, _, _⟩ := I2.hok c' _ hco
  have glen : gts.length = gs.length := by rw [← rgts.length, List.length_map]
  -- the i-th of the list
  have itemAt : ∀ {b : Nat} {v : Value}, gts[b]? = some v → ∃ (m : Nat) (t : Tok), gs[b]? = some m ∧ v = .int m t := fun {b v} ev => by
    have hb3 : b < gs.length := by
      rw [← glen]
      exact (List.getElem?_eq_some_iff.mp ev).1
    have e1 : (gs.map fun (m : Nat) => V.int m)[b]? = some (V.int (gs[b] : Nat)) := by rw [List.getElem?_map, List.getElem?_eq_getElem hb3]; rfl
    obtain ⟨w0, ew, rw0⟩ := rgts.get e1
    rw [ev] at ew
    cases ew
    obtain ⟨t, rfl⟩ := rw0
    exact ⟨gs[b], t, List.getElem?_eq_getElem hb3, rfl⟩
  refine min_list (A := X.A) (vs := gts) (fun b => key (gs.getD b 0)) (I2.ok.hd hc) hgt.isList (by rw [glen]; exact h0) (fun b v ev hh htk hkeep => ?_) (fun v h' tk' ev k1 => ?_)
  · obtain ⟨m, tb, em, rfl⟩ := itemAt ev
    have eD : gs.getD b 0 = m := by rw [List.getD_eq_getElem?_getD, em]; rfl
    rw [eD]
    have hml := hin m (List.mem_of_getElem? em)
    obtain ⟨a, C, dx, fs, ex, ea, cls, na, lk⟩ := hkeys m hml
    have ea2 : H2 a = some (.ins C dx fs) := notTbl (fun _ z => by cases z) ea
    obtain ⟨mA, O, rel, _, _, _⟩ := ins_get I2.hok ea2
    obtain ⟨uu, hu, ru⟩ := RelO.some_of (v := .int (key m)) (o := mA f) (by rw [← lk]; exact rel f)
    obtain ⟨tt, rfl⟩ := ru
    obtain ⟨w0, ew, rw0⟩ := rits.get ex
    obtain rfl : w0 = Value.ref a := rw0
    have O1 : ObjM hh a dx C mA := ⟨hkeep _ _ O.obj, O.ns.at fun o e => hkeep _ _ e, O.ne⟩
    refine lam_call (s := { s2 with heap := hh, toks := htk }) (K := X.K) S (I2.kIn.keeps hkeep) (I2.nolimit.keeps hkeep) (hkeep _ _ hf) ⟨c', oc, ovs, ot, rfl, hkeep _ _ hoc, hdc, hvc⟩ (hb _ cl pm c' ctv) (let ⟨o, e, z⟩ := hcell; ⟨o, hkeep _ _ e, z⟩)
      (vs := its) (let ⟨o, e, z⟩ := hit.isList; ⟨o, hkeep _ _ e, z⟩) ew (show (m : Int) < 2 ^ 63 by omega) O1 cls na hu (by have := hr.dp; show X.A.depth < _; omega) fun h3 tk3 k3 => ?_
    exact ⟨h3, tk3, rfl, k3, .int _ _⟩
  · rw [glen] at ev
    obtain ⟨m, tb, em, rfl⟩ := itemAt ev
    exact ⟨.int m, H2, I2.kept k1, ⟨tb, rfl⟩, fin H2 hE hT2 m em⟩
end
end SJ
end
section
set_option Elab.async false
set_option linter.all false
set_option maxRecDepth 100000
set_option maxHeartbeats 4000000
/-! The end of a Spec row of one list of ints, with code tables that grow. -/
namespace SJ
open PySem PySem.Spec PyProof.Rows L2 LamX
open PySem.W (WData Codec OpenSpec Well WellAll ReadsW ReadsAllW)
theorem ints_well {P : Params} {h : Heap} : ∀ {ns : List Int} {vs : List Value}, WellAll P h vs (ns.map WData.int) → IntsAre vs ns
  | [], _, x => by
    cases x
    exact .nil
  | n :: r, _, x => by
    cases x with
    | cons a b =>
      cases a
      exact .cons n _ (ints_well b)
section
variable {P : Program} {w : World} {K : PySem.W.Frag} {mg mb : Str → Option Value} {CX : CXT} {k : Nat} {fa a : Addr} {cs : List (Addr × Addr)} {fd : FuncData} {x : Str} {sp : Sp} {z : Shared} {vs : List Value} {ns : List Int} {R : PySem.W.WRecords} {cl : Str → Option Addr} {d0 : WData}
theorem spec_tabs (KX : K.In z.heap) (hns : z.heap.Ns mainGlobals mg) (hb : z.heap.Ns builtinsNs mb) (hbb : ∀ x : Str, x ≠ "__name__" → mb x = bootBuiltins x) (hlim : z.heap.NoLimit) (hg : z.gens = #[])
    (hT : ∀ p ∈ cs, z.heap.get? p.2 = some { cls := .none, data := .fields #[] }) (nT : ∀ p ∈ cs, K.lookup p.2 = none) (C : ∀ p ∈ cs, PySem.W.CodeHd z.heap p.1 p.2)
    (hbm : ∃ (bm : Addr) (ob : Obj), mg "__builtins__" = some (.ref bm) ∧ bm ≠ builtinsNs ∧ z.heap.get? bm = some ob ∧ ob.cls = .type "module" ∧ ob.dict = some builtinsNs ∧ ob.data = .plain)
    (ha : z.heap.get? a = some { cls := .type "list", data := .seq vs.toArray }) (hi : IntsAre vs ns) (hl : ns.length ≤ sizeLine) (hr : Room k callerA)
    (F : ∀ base : Heap, K.In base → base.Ns mainGlobals mg → (∀ p ∈ cs, TabB base mg p.1 p.2) → FnOk P w K mg base CX k fa fd [x] sp) (hbind : ∀ (s : Shared) (u : Value), BindsTo s fd ⟨[u], []⟩ [(x, u)])
    (hsp : ∀ H : Hp, (∀ p ∈ cs, H p.2 = some (.tbl #[])) → SqL K H a (ns.map V.int) → sp [.ref a] H (fun v H' => Dw K H' v d0) fun _ _ _ => False)
    (hCX : ∀ H e s', CX [] H z (fun _ _ _ => False) e s' → False) :
    codeAny (model P w) callerA (.call (.ref fa) ⟨[.ref a], []⟩) (fun r s' => ∃ u as, r = .ok (.ret u) ∧ ReadsW R cl s'.heap u d0 as ∧ OldK z.heap s'.heap ∧ s'.os = z.os ∧ AllBare s'.gens) z := by
  have rv := vals_ints hi
  have lenV := hi.length
  have isT : ∀ b : Addr, b ∈ cs.map (·.2) → z.heap.get? b = some { cls := .none, data := .fields #[] } := fun b hb => by
    obtain ⟨p, hp, e⟩ := List.mem_map.mp hb
    rw [← e]
    exact hT p hp
  have aT : a ∉ cs.map (·.2) := fun m => by
    have q := isT a m
    rw [ha] at q
    have dd : Data.seq vs.toArray _ = Data.fields #[] := congrArg Obj.data (Option.some.inj q)
    cases dd
  have memT : ∀ p ∈ cs, p.2 ∈ cs.map (·.2) := fun p hp => List.mem_map.mpr ⟨p, hp, rfl⟩
  have core : ∀ H : Hp, (∀ p ∈ cs, H p.2 = some (.tbl #[])) → (∀ b, H b = none ∨ b ∈ cs.map (·.2) ∨ ∃ o xs, H b = some (.frz o (.lst xs))) → SqL K H a (ns.map V.int) → HOk P w H z.heap → (∀ b, H b ≠ none → b = a ∨ b ∈ cs.map (·.2)) → (H a ≠ none → K.lookup a = none) →
      codeAny (model P w) callerA (.call (.ref fa) ⟨[.ref a], []⟩) (fun r s' => ∃ u as, r = .ok (.ret u) ∧ ReadsW R cl s'.heap u d0 as ∧ OldK z.heap s'.heap ∧ s'.os = z.os ∧ AllBare s'.gens) z := by
    intro H hH hO hS hok hA hK
    have stays : ∀ {b : Addr} {o : Obj}, z.heap.get? b = some o → H b = none → (hidT z.heap H).get? b = some o := fun e n => hidT_get e n
    have free : ∀ {b : Addr} {o : Obj}, z.heap.get? b = some o → (∀ vs n, o.data ≠ .seq vs n) → o.data ≠ .fields #[] → H b = none := fun {b o} e h1 h2 => by
      cases q : H b with
      | none => rfl
      | some u =>
        rcases hA b (by rw [q]; simp) with rfl | m
        · rw [ha] at e
          cases e
          exact (h1 _ _ rfl).elim
        · rw [isT b m] at e
          cases e
          exact (h2 rfl).elim
    have nsK : ∀ {b : Addr} {m : Str → Option Value}, z.heap.Ns b m → (hidT z.heap H).Ns b m := fun {b m} ⟨o, es, ep, e, d, r⟩ => by
      refine ⟨o, es, ep, stays e (free e (fun vs n q => ?_) fun q => ?_), d, r⟩
      · rw [d] at q
        cases q
      · rw [d] at q
        cases q
    have hKb : K.In (hidT z.heap H) := fun b o e => stays (KX b o e) (by
      cases q : H b with
      | none => rfl
      | some u =>
        rcases hA b (by rw [q]; simp) with rfl | m
        · rw [hK (by rw [q]; simp)] at e
          cases e
        · obtain ⟨p, hp, ep⟩ := List.mem_map.mp m
          rw [← ep, nT p hp] at e
          cases e)
    have hM : L2.Mod K mg (hidT z.heap H) := ⟨hKb, nsK hns, ⟨mb, nsK hb, hbb⟩, let ⟨mc, h1, h2⟩ := hlim; ⟨mc, nsK h1, h2⟩⟩
    have TB : ∀ p ∈ cs, TabB (hidT z.heap H) mg p.1 p.2 := fun p hp => by
      have hTp := hT p hp
      refine ⟨?_, ?_, fun q => ?_⟩
      · obtain ⟨o, us, file, tf, flags, tg, inF, text, tt, e1, r1, r2, r3, r4, r5, r6, r7, r8, hne⟩ := C p hp
        refine ⟨o, us, file, tf, flags, tg, inF, text, tt, stays e1 (free e1 (fun vs n q => ?_) fun q => ?_), r1, r2, r3, r4, r5, r6, r7, r8, hne⟩
        · rw [r2] at q
          cases q
        · rw [r2] at q
          cases q
          simp at r3
      · obtain ⟨bm, ob, b1, b2, b3, b4, b5, b6⟩ := hbm
        have nG : bm ≠ mainGlobals := fun q => by
          obtain ⟨o, es, ep, e, hd, _⟩ := hns
          rw [q, e] at b3
          cases b3
          rw [hd] at b6
          cases b6
        have nP : bm ≠ p.2 := fun q => by
          rw [q, hTp] at b3
          cases b3
          cases b6
        refine ⟨bm, ob, b1, b2, nG, nP, stays b3 (free b3 (fun vs n q => ?_) fun q => ?_), b4, b5, b6⟩
        · rw [b6] at q
          cases q
        · rw [b6] at q
          cases q
      · obtain ⟨o, es, ep, e, hd, _⟩ := hns
        rw [q, hTp] at e
        cases e
        cases hd
    have e0 : Env0 P w K mg (hidT z.heap H) callerA [] z H :=
      ⟨rfl, hM, fun b o e => of_hidT e, Nat.le_of_eq (hidT_size _ _), trivial, fun b hb => absurd (show b ∈ ([] : List Addr) from hb) (by simp), hok, .of_eq hg⟩
    refine codeAny_mono ((F _ hKb (nsK hns) TB).run callerA [] z H ⟨[.ref a], []⟩ [.ref a] [.ref a] _ _ hr e0 (hbind z (.ref a)) (.cons rfl .nil) (hsp H hH hS)) fun r s' h => ?_
    cases r with
    | error e => exact (hCX H e s' h).elim
    | ok fl =>
      cases fl with
      | next => exact False.elim h
      | brk => exact False.elim h
      | cont => exact False.elim h
      | ret u =>
        obtain ⟨v, H', os, bare, un, hok', r', q⟩ := h
        have key : ∀ b o, b ∉ cs.map (·.2) → z.heap.get? b = some o → s'.heap.get? b = some o := fun b o nb e => by
          cases q : H b with
          | none => exact un.keep b o e q (by intro m; exact absurd (show b ∈ ([] : List Addr) from m) (by simp)) (by simp)
          | some u =>
            rcases hO b with m | m | ⟨ob, xs, m⟩
            · rw [q] at m
              cases m
            · exact absurd m nb
            · obtain ⟨e1, _⟩ := hok b _ m
              obtain ⟨e2, _⟩ := hok' b _ (un.frzs b ob _ m)
              rw [e] at e1
              cases e1
              exact e2
        have grown : ∀ p ∈ cs, ∃ more : Array Value, s'.heap.get? p.2 = some { cls := .none, data := .fields more } := fun p hp => by
          obtain ⟨more, m⟩ := un.tbls p.2 #[] (hH p hp)
          exact ⟨_, hok' p.2 _ m⟩
        have KX2 : K.In s'.heap := fun b o e => key b o (fun m => by
          obtain ⟨p, hp, ep⟩ := List.mem_map.mp m
          rw [← ep, nT p hp] at e
          cases e) (KX b o e)
        obtain ⟨as, hrd⟩ := Dw.reads (R := R) (cl := cl) hok' KX2 d0 v u q r'
        refine ⟨u, as, rfl, hrd, ⟨fun b o e => ?_, fun b o e => ?_⟩, os, bare⟩
        · by_cases hb : b ∈ cs.map (·.2)
          · obtain ⟨p, hp, ep⟩ := List.mem_map.mp hb
            obtain ⟨more, hm⟩ := grown p hp
            rw [← ep] at e ⊢
            rw [hT p hp] at e
            cases e
            exact .inr (.inl ⟨((C p hp).tab (hT p hp)).isCodeTable, rfl, #[], more, rfl, by rw [Array.empty_append]; exact hm⟩)
          · exact .inl (key b o hb e)
        · by_cases hb : b ∈ cs.map (·.2)
          · obtain ⟨p, hp, ep⟩ := List.mem_map.mp hb
            obtain ⟨more, hm⟩ := grown p hp
            rw [← ep]
            exact ⟨_, hm⟩
          · exact ⟨o, key b o hb e⟩
  cases hk : K.lookup a with
  | some o =>
    have e := KX a o hk
    rw [ha] at e
    cases e
    refine core (fun b => if b ∈ cs.map (·.2) then some (.tbl #[]) else none) (fun p hp => if_pos (memT p hp)) (fun b => ?_)
      (.inr ⟨_, vs.toArray, _, hk, rfl, rfl, rfl, by rw [List.size_toArray, lenV]; exact hl, by simpa using rv⟩) (fun b u m => ?_) (fun b m => ?_)
      fun m => absurd (show (if a ∈ cs.map (·.2) then some (HO.tbl #[]) else none) = none from if_neg aT) m
    · by_cases hb : b ∈ cs.map (·.2)
      · exact .inr (.inl hb)
      · exact .inl (if_neg hb)
    · by_cases hb : b ∈ cs.map (·.2)
      · have m2 := (if_pos hb).symm.trans m
        cases m2
        exact isT b hb
      · have m2 := (if_neg hb).symm.trans m
        cases m2
    · by_cases hb : b ∈ cs.map (·.2)
      · exact .inr hb
      · exact absurd (if_neg hb) m
  | none =>
    refine core (fun b => if b = a then some (.frz { cls := .type "list", data := .seq vs.toArray } (.lst (ns.map V.int))) else if b ∈ cs.map (·.2) then some (.tbl #[]) else none)
      (fun p hp => (if_neg (show ¬ p.2 = a from fun q => aT (by rw [← q]; exact memT p hp))).trans (if_pos (memT p hp))) (fun b => ?_)
      (.inl (.inr ⟨{ cls := .type "list", data := .seq vs.toArray }, if_pos rfl⟩)) (fun b u m => ?_) (fun b m => ?_) fun _ => hk
    · by_cases hb : b = a
      · exact .inr (.inr ⟨_, _, if_pos hb⟩)
      · by_cases hb2 : b ∈ cs.map (·.2)
        · exact .inr (.inl hb2)
        · exact .inl ((if_neg hb).trans (if_neg hb2))
    · by_cases hb : b = a
      · have m2 := (if_pos hb).symm.trans m
        cases m2
        rw [hb]
        exact ⟨ha, by rw [List.length_map]; exact hl, vs, _, rv, ha⟩
      · have m1 := (if_neg hb).symm.trans m
        by_cases hb2 : b ∈ cs.map (·.2)
        · have m2 := (if_pos hb2).symm.trans m1
          cases m2
          exact isT b hb2
        · have m2 := (if_neg hb2).symm.trans m1
          cases m2
    · by_cases hb : b = a
      · exact .inl hb
      · by_cases hb2 : b ∈ cs.map (·.2)
        · exact .inr hb2
        · exact absurd ((if_neg hb).trans (if_neg hb2)) m
end
/-! ## this row -/
abbrev R0 : OpenSpec := PySem.Challenge.rw_surejourney_s01_answers
/-- a request that is meant -/
structure Meant (ns : List Int) : Prop where
  len : ns.length ≤ 17000
  low : ∀ n ∈ ns, -1000000000000000000 ≤ n ∧ n ≤ 1000000000000000000
  ask : PyVbtoad.answers_asked ns = true
/-- what the promise of the row's def is -/
def spRow (K : PySem.W.Frag) (cs : List (Addr × Addr)) (sp : Sp) : Prop := ∀ (H : Hp) (a : Addr) (ns : List Int), Meant ns → (∀ p ∈ cs, H p.2 = some (.tbl #[])) → SqL K H a (ns.map V.int) →
  ∀ Q : VK, (∀ p H', H' p = some (.lst ((PyVbtoad.answers ns).map V.int)) → Q (.ref p) H') → sp [.ref a] H Q fun _ _ _ => False
/-- what must be known behind the top -/
def RowAt (k : Nat) (w : World) (h : Heap) (mg : Str → Option Value) (fa : Addr) : Prop := ∃ (K : PySem.W.Frag) (cs : List (Addr × Addr)) (fd : FuncData) (sp : Sp), K.In h ∧
  (∀ p ∈ cs, h.get? p.2 = some { cls := .none, data := .fields #[] }) ∧ (∀ p ∈ cs, K.lookup p.2 = none) ∧ (∀ p ∈ cs, PySem.W.CodeHd h p.1 p.2) ∧ (∀ (s : Shared) (u : Value), BindsTo s fd ⟨[u], []⟩ [("calls", u)]) ∧
  (∀ base : Heap, K.In base → base.Ns mainGlobals mg → (∀ p ∈ cs, TabB base mg p.1 p.2) → FnOk R0.prog w K mg base CX0 k fa fd ["calls"] sp) ∧ spRow K cs sp
theorem walk_row {k : Nat} {q : Program} {loose : List Str} {XP : (Str → Option Value) → Heap → Prop} {YP : World → Heap → Prop} {d : DefRec} (hwell : R0.wellSaid = true) (hr : Room k callerA)
    (F : ∀ (w : World) (mg : Str → Option Value) (fa : Addr) (h : Heap), YP w h → h.Ns mainGlobals mg → mg d.name = some (.ref fa) → RowAt k w h mg fa) :
    PySem.W.WalkOS q loose XP YP R0 d [] (fun f vs => PySem.call f vs) := by
  intro w s₀ s₁ mg mb G Y fa o pm cd doc dV kV ho hd hcd hD hmg hg args vals as hpre hlay hrd hwl hlo
  obtain ⟨a, e1, e2⟩ := PySem.W.os_pre_some hpre
  obtain ⟨e3, hwi⟩ := Codec.encAll_of_decAll R0.args args a e1
  subst e3
  obtain ⟨K, cs, fd, sp, KX, hT, nT, C, hb, FF, hsp⟩ := F w mg fa _ Y G.T.g hmg
  obtain ⟨ns, un⟩ := a
  have hwl2 : WellAll w.params s₁.heap vals [WData.list (ns.map WData.int)] := hwl
  obtain ⟨v, vs0, rfl, hv, hv0⟩ := well_cons hwl2
  cases hv0
  obtain ⟨l, vs, rfl, hobj, hall⟩ := well_list hv
  have q : ((Codec.inLen 0 17000 ns && ns.all (Codec.inInt (-1000000000000000000) 1000000000000000000)) && true) = true := hwi
  rw [Bool.and_eq_true, Bool.and_eq_true] at q
  have M : Meant ns := ⟨(Codec.inNat_iff.mp q.1.1).2, fun n hn => Codec.inInt_iff.mp (List.all_eq_true.mp q.1.2 n hn), e2⟩
  have hi := ints_well hall
  have hl : ns.length ≤ sizeLine := by
    have := M.len
    rw [sizeLine_eq]
    omega
  refine PySem.W.enter_call (codeAny_mono (spec_tabs (R := []) (cl := classAt s₀.heap) (d0 := R0.ret.enc (Codec.app R0.args R0.f (ns, un))) KX G.T.g G.T.b G.T.builtins G.T.nolimit hg hT nT C G.T.bmain hobj hi hl hr FF hb
    (fun H hH hS => hsp H l ns M hH hS _ fun p H' hp => .lst (L2.SqL.of hp) (L2.dw_ints _)) (fun _ _ _ z => z)) fun r' s' hq => ?_)
  obtain ⟨u, as', rfl, h1, h2, h3, h4⟩ := hq
  exact ⟨.inl ⟨u, _, as', rfl, fun _ => rfl, h1, (OpenSpec.post_iff hwell hwi _ _).mpr rfl, fun z => Bool.noConfusion (show false = true from z)⟩, h2, h3, h4⟩
end SJ
end
section
set_option Elab.async false
set_option linter.all false
set_option maxRecDepth 100000
set_option maxHeartbeats 0
/-! The top, run by the kernel in parts: each part looks at something else behind the same run. -/
namespace SJ
open PySem PySem.Spec PyProof.Rows L2
abbrev qv : Program := PySem.W.view R0.prog [170]
def asR : List Addr := [3, 93, 92, 113, 112, 134, 133, 155, 154, 176, 175, 190, 189, 197, 196, 204, 203, 211, 210, 218, 217, 225, 224, 232, 231, 246, 245, 267, 266, 274, 273, 281, 280, 288, 287, 302, 301, 309, 308, 314, 313, 321, 320, 328, 327, 333, 332, 338, 337, 345, 344, 352, 351, 359, 358, 366, 365, 373, 372, 380, 379, 387, 386, 394, 393, 401, 400, 408, 407, 415, 414, 422, 421, 436, 435, 450, 449, 455, 454, 460, 459, 465, 464, 479, 478, 500, 499, 514, 513, 521, 520, 528, 527, 535, 534, 542, 541, 549, 548, 556, 555, 563, 562, 568, 567, 575, 574, 580, 579, 587, 586, 594, 593, 608, 607, 622, 621, 629, 628, 636, 635, 643, 642, 650, 649, 657, 656, 664, 663, 671, 670, 678, 677, 685, 684, 692, 691, 699, 698, 706, 705, 713, 712, 720, 719, 727, 726, 734, 733, 741, 740, 748, 747, 755, 754, 762, 761, 769, 768, 776, 775, 783, 782, 790, 789, 797, 796, 804, 803, 811, 810, 818, 817, 825, 824, 830, 829, 837, 836, 842, 841, 849, 848, 863, 862, 884, 883, 898, 897, 905, 904, 912, 911, 919, 918, 926, 925, 933, 932, 940, 939, 947, 946, 954, 953, 961, 960, 968, 967, 975, 974, 980, 979, 987, 986, 994, 993, 1001, 1000, 1008, 1007, 1015, 1014, 1022, 1021, 1029, 1028, 1034, 1033, 1041, 1040, 1048, 1047, 1055, 1054, 1062, 1061, 1091, 1090, 1098, 1097, 1105, 1104, 1064, 1065, 1066, 1067, 1068, 1069, 1070, 1071, 1072, 1073, 1074, 1075, 1076, 1077, 1078, 1079, 1080, 1082, 0, 1, 2, 4, 5, 6, 10, 14, 17, 21, 23, 24, 30, 34, 36, 37, 43, 47, 49, 50, 56, 60, 62, 63, 69, 73, 75, 76, 82, 86, 95, 96, 102, 106, 115, 116, 123, 127, 136, 137, 144, 148, 157, 158, 165, 169, 178, 179, 235, 239, 248, 249, 256, 260, 290, 291, 425, 429, 438, 439, 468, 472, 481, 482, 489, 493, 502, 503, 597, 601, 610, 611, 852, 856, 865, 866, 873, 877, 886, 887, 1063, 1081, 1083, 1084]
abbrev KOf (g : Addr → Option Obj) : PySem.W.Frag := He.frT g asR
def faOk (l : List He.Fa) (g : Addr → Option Obj) : Bool := l.all fun f => f.ok (KOf g)
def fnOk (g : Addr → Option Obj) : Bool := fn.all fun d => d.ok (KOf g)
def exOk (g : Addr → Option Obj) : Bool := (moreOk (KOf g) && tabsNd (KOf g)) && He.tabsB g lamDefs (KOf g)
def fnAll (g : Addr → Option Obj) : List He.FnW := fn.map fun d => He.fnW (KOf g) d.at_
abbrev Al : Type := (Bool × Bool × Bool) × List He.FnW
def obsA (g : Addr → Option Obj) : Al := ((faOk fa g, fnOk g, exOk g), fnAll g)
def valA : Al := ((true, true, true), fn.map He.DefD.val)
/-- what is told of the heap behind the top -/
structure Told (h : Heap) (K : PySem.W.Frag) : Prop where
  says : He.SaysD fa fn K
  more : moreOk K = true
  tnd : tabsNd K = true
  hd : ∀ p ∈ lamDefs, PySem.W.codeHdIn K (He.cT K p).1 (He.cT K p).2 = true
  out : ∀ p ∈ lamDefs, K.lookup (He.cT K p).2 = none
  empty : ∀ p ∈ lamDefs, h.get? (He.cT K p).2 = some { cls := .none, data := .fields #[] }
theorem told_of {h : Heap} (e : obsA h.get? = valA) : Told h (KOf h.get?) := by
  have e1 : faOk fa h.get? = true := congrArg (fun z : Al => z.1.1) e
  have e2 : fnOk h.get? = true := congrArg (fun z : Al => z.1.2.1) e
  have e3 : exOk h.get? = true := congrArg (fun z : Al => z.1.2.2) e
  have e4 : fnAll h.get? = fn.map He.DefD.val := congrArg (fun z : Al => z.2) e
  obtain ⟨e5, e6⟩ := Bool.and_eq_true_iff.mp e3
  have key : ∀ p ∈ lamDefs, PySem.W.codeHdIn (KOf h.get?) (He.cT (KOf h.get?) p).1 (He.cT (KOf h.get?) p).2 = true ∧ ∃ o, h.get? (He.cT (KOf h.get?) p).2 = some o ∧ He.emptyTab o = true := fun p hp => by
    obtain ⟨h3, h4⟩ := He.ba (List.all_eq_true.mp e6 p hp)
    refine ⟨h3, ?_⟩
    cases q : h.get? (He.cT (KOf h.get?) p).2 with
    | none =>
      rw [q] at h4
      cases h4
    | some o =>
      rw [q] at h4
      exact ⟨o, rfl, h4⟩
  refine ⟨Prod.ext (Bool.and_eq_true_iff.mpr ⟨e1, e2⟩) e4, (Bool.and_eq_true_iff.mp e5).1, (Bool.and_eq_true_iff.mp e5).2, fun p hp => (key p hp).1, fun p hp => ?_, fun p hp => ?_⟩
  · obtain ⟨_, o, q, z⟩ := key p hp
    exact He.frT_none q z
  · obtain ⟨_, o, q, z⟩ := key p hp
    rw [q, He.emptyTab_eq z]
def hk : PySem.W.Hook where
  α := Al
  obs := fun s => obsA s.heap.get?
  val := fun _ => valA
  says := fun _ h => ∃ K : PySem.W.Frag, K.In h ∧ Told h K
  of := fun _ _ e => ⟨_, He.frT_in, told_of e⟩
  keeps := fun _ _ _ ⟨K, hK, c⟩ k => ⟨K, PySem.W.Frag.In.keeps hK k, ⟨c.says, c.more, c.tnd, c.hd, c.out, fun p hp => k _ _ (c.empty p hp)⟩⟩
def ob (s : PySem.W.SharedT) : hk.α := obsA (HandSHeadRun.getT s)
theorem ob_eq (s : PySem.W.SharedT) : ob s = hk.obs s.abs := by
  have e : HandSHeadRun.getT s = s.abs.heap.get? := funext (HandSHeadRun.getT_eq s)
  unfold ob
  rw [e]
  rfl
/-- the state behind the top -/
noncomputable abbrev behind (w : World) (os : OsState) : Option PySem.W.SharedT := HandSHeadRun.endF (HandSHeadRun.stepQ (HandSHeadRun.denQ HandSHeadRun.tabQ) R0.prog w) 12000 R0.prog w os
abbrev Part {A : Type} (f : World → PySem.W.SharedT → A) (v : A) (w : World) : Prop := ∀ os, (behind w os).map (f w) = some v
/-- the defs in two parts, so that no look is much greater than the others -/
def fnPart (l : List He.DefD) (g : Addr → Option Obj) : Bool := l.all fun d => d.ok (KOf g)
theorem fn_parts {g : Addr → Option Obj} (n : Nat) (h1 : fnPart (fn.take n) g = true) (h2 : fnPart (fn.drop n) g = true) : fnOk g = true := by
  have e : (fn.take n ++ fn.drop n).all (fun d => d.ok (KOf g)) = true := by
    rw [List.all_append]
    exact Bool.and_eq_true_iff.mpr ⟨h1, h2⟩
  rw [List.take_append_drop] at e
  exact e
noncomputable def look1 (w : World) (s : PySem.W.SharedT) : Bool := HandSHeadRun.looksF R0.prog (PySem.W.boot_heap w.params) s.abs && fnPart (fn.drop 100) (HandSHeadRun.getT s)
noncomputable def look2 (_ : World) (s : PySem.W.SharedT) := (HandSHeadRun.seenQ qv names (importedModules R0.prog.main.body) (fun s => PySem.W.xlAt qv [] s && PySem.W.recOk [] s) s.abs, exOk (HandSHeadRun.getT s))
def look3 (_ : World) (s : PySem.W.SharedT) : List He.FnW := fnAll (HandSHeadRun.getT s)
def look4 (_ : World) (s : PySem.W.SharedT) : Bool := faOk fa (HandSHeadRun.getT s)
def look5 (_ : World) (s : PySem.W.SharedT) : Bool := fnPart (fn.take 100) (HandSHeadRun.getT s)
theorem look1_false (w : World) : Part look1 true (w.withFollow "special-get-raises" false) := by
  intro os
  kernel_rfl
theorem look1_true (w : World) : Part look1 true (w.withFollow "special-get-raises" true) := by
  intro os
  kernel_rfl
theorem look1_run (w : World) : Part look1 true w := PySem.W.byRow2 "special-get-raises" (P := fun w => Part look1 true w) look1_false look1_true w
theorem look2_false (w : World) : Part look2 (PySem.W.openGood qv names, true) (w.withFollow "special-get-raises" false) := by
  intro os
  kernel_rfl
theorem look2_true (w : World) : Part look2 (PySem.W.openGood qv names, true) (w.withFollow "special-get-raises" true) := by
  intro os
  kernel_rfl
theorem look2_run (w : World) : Part look2 (PySem.W.openGood qv names, true) w := PySem.W.byRow2 "special-get-raises" (P := fun w => Part look2 (PySem.W.openGood qv names, true) w) look2_false look2_true w
theorem look3_false (w : World) : Part look3 (fn.map He.DefD.val) (w.withFollow "special-get-raises" false) := by
  intro os
  kernel_rfl
theorem look3_true (w : World) : Part look3 (fn.map He.DefD.val) (w.withFollow "special-get-raises" true) := by
  intro os
  kernel_rfl
theorem look3_run (w : World) : Part look3 (fn.map He.DefD.val) w := PySem.W.byRow2 "special-get-raises" (P := fun w => Part look3 (fn.map He.DefD.val) w) look3_false look3_true w
theorem look4_false (w : World) : Part look4 true (w.withFollow "special-get-raises" false) := by
  intro os
  kernel_rfl
theorem look4_true (w : World) : Part look4 true (w.withFollow "special-get-raises" true) := by
  intro os
  kernel_rfl
theorem look4_run (w : World) : Part look4 true w := PySem.W.byRow2 "special-get-raises" (P := fun w => Part look4 true w) look4_false look4_true w
theorem look5_false (w : World) : Part look5 true (w.withFollow "special-get-raises" false) := by
  intro os
  kernel_rfl
theorem look5_true (w : World) : Part look5 true (w.withFollow "special-get-raises" true) := by
  intro os
  kernel_rfl
theorem look5_run (w : World) : Part look5 true w := PySem.W.byRow2 "special-get-raises" (P := fun w => Part look5 true w) look5_false look5_true w
theorem run (w : World) : HandSHeadRun.RunEqS R0 qv hk ob 12000 names w := by
  intro os
  have e1 := look1_run w os
  have e2 := look2_run w os
  have e3 := look3_run w os
  have e4 := look4_run w os
  have e5 := look5_run w os
  show (behind w os).map _ = some _
  cases e : behind w os with
  | none =>
    rw [e] at e1
    cases e1
  | some s =>
    rw [e] at e1 e2 e3 e4 e5
    have f1 : look1 w s = true := Option.some.inj e1
    obtain ⟨g1, g7⟩ := Bool.and_eq_true_iff.mp f1
    have f2 : look2 w s = (PySem.W.openGood qv names, true) := Option.some.inj e2
    have g2 : HandSHeadRun.seenQ qv names (importedModules R0.prog.main.body) (fun s => PySem.W.xlAt qv [] s && PySem.W.recOk [] s) s.abs = PySem.W.openGood qv names := congrArg Prod.fst f2
    have g3 : exOk (HandSHeadRun.getT s) = true := congrArg Prod.snd f2
    have g4 : fnAll (HandSHeadRun.getT s) = fn.map He.DefD.val := Option.some.inj e3
    have g5 : faOk fa (HandSHeadRun.getT s) = true := Option.some.inj e4
    have g8 : fnPart (fn.take 100) (HandSHeadRun.getT s) = true := Option.some.inj e5
    have g6 : fnOk (HandSHeadRun.getT s) = true := fn_parts 100 g8 g7
    have f9 : ob s = hk.val w := by
      show obsA (HandSHeadRun.getT s) = valA
      unfold obsA valA
      rw [g5, g6, g3, g4]
    show some (_, _, ob s) = some (true, _, hk.val w)
    rw [f9, g1, g2]
end SJ
end
section
set_option autoImplicit false
namespace SJ
open Vbtoad

def NEVER : Nat := 1000000000

structure WF (n : Net) : Prop where
  np : n.places.length ≤ 8
  nc : n.cars.length ≤ 16
  ng : n.goes.length ≤ 30
  hh : ∀ p ∈ n.places, p.handling ≤ 1000
  car : ∀ c ∈ n.cars, c.from_ < n.places.length ∧ c.to_ < n.places.length ∧ c.from_ ≠ c.to_ ∧ 1 ≤ c.long ∧ c.long ≤ 10000
  go : ∀ g ∈ n.goes, g.from_ < n.places.length ∧ g.to_ < n.places.length ∧ g.from_ ≠ g.to_ ∧ g.dep < g.arr ∧ g.arr ≤ 100000
  pn : ∀ p ∈ n.places, Vbbtaa.isName p.name = true
  cn : ∀ c ∈ n.cars, Vbbtaa.isName c.name = true
  gn : ∀ g ∈ n.goes, Vbbtaa.isName g.name = true

theorem WF.hand {n : Net} (W : WF n) (p : Nat) : handlingAt n p ≤ 1000 := by
  unfold handlingAt
  cases h : n.places[p]? with
  | none => simp
  | some x => simpa using W.hh x (List.mem_of_getElem? h)

/-! counting -/
theorem countP_lt {α : Type} {P Q : α → Bool} : ∀ (l : List α), (∀ x ∈ l, P x = true → Q x = true) → (∃ x ∈ l, Q x = true ∧ P x = false) → l.countP P < l.countP Q
  | [], _, ⟨_, h, _⟩ => absurd h List.not_mem_nil
  | a :: l, himp, ⟨x, hx, hq, hp⟩ => by
    have mono : l.countP P ≤ l.countP Q := List.countP_mono_left fun y hy => himp y (List.mem_cons_of_mem _ hy)
    rcases List.mem_cons.mp hx with rfl | hx
    · rw [List.countP_cons_of_pos hq, List.countP_cons_of_neg (by simp [hp])]
      omega
    · have ih := countP_lt l (fun y hy => himp y (List.mem_cons_of_mem _ hy)) ⟨x, hx, hq, hp⟩
      have h1 := himp a List.mem_cons_self
      rw [List.countP_cons, List.countP_cons]
      split <;> split <;> simp_all <;> omega

/-! the table of ways -/
def T0 (n : Net) (p q : Nat) : Nat := n.cars.foldl (fun m c => if c.from_ = p ∧ c.to_ = q then min m c.long else m) (if p = q then 0 else NEVER)
def T (n : Net) : Nat → Nat → Nat → Nat
  | 0, p, q => T0 n p q
  | k + 1, p, q => min (T n k p q) (T n k p k + handlingAt n k + T n k k q)
def D (n : Net) (p q : Nat) : Nat := T n n.places.length p q
def R (n : Net) (p u : Nat) : Nat := if p = u then 0 else D n p u + handlingAt n u

theorem fold_le (p q : Nat) : ∀ (l : List Car) (m : Nat), l.foldl (fun m c => if c.from_ = p ∧ c.to_ = q then min m c.long else m) m ≤ m
  | [], _ => Nat.le_refl _
  | c :: l, m => by
    rw [List.foldl_cons]
    refine Nat.le_trans (fold_le p q l _) ?_
    split <;> omega
theorem fold_le_car (p q : Nat) : ∀ (l : List Car) (m : Nat) (c : Car), c ∈ l → c.from_ = p → c.to_ = q → l.foldl (fun m c => if c.from_ = p ∧ c.to_ = q then min m c.long else m) m ≤ c.long
  | [], _, _, h, _, _ => absurd h List.not_mem_nil
  | a :: l, m, c, h, hp, hq => by
    rw [List.foldl_cons]
    rcases List.mem_cons.mp h with rfl | h
    · refine Nat.le_trans (fold_le p q l _) ?_
      rw [if_pos ⟨hp, hq⟩]
      omega
    · exact fold_le_car p q l _ c h hp hq
theorem fold_is (p q : Nat) : ∀ (l : List Car) (m : Nat), l.foldl (fun m c => if c.from_ = p ∧ c.to_ = q then min m c.long else m) m = m ∨ ∃ c ∈ l, c.from_ = p ∧ c.to_ = q ∧ l.foldl (fun m c => if c.from_ = p ∧ c.to_ = q then min m c.long else m) m = c.long
  | [], _ => .inl rfl
  | a :: l, m => by
    rw [List.foldl_cons]
    rcases fold_is p q l (if a.from_ = p ∧ a.to_ = q then min m a.long else m) with h | ⟨c, hc, h1, h2, h3⟩
    · rw [h]
      by_cases e : a.from_ = p ∧ a.to_ = q
      · rw [if_pos e]
        by_cases l : m ≤ a.long
        · exact .inl (by omega)
        · exact .inr ⟨a, List.mem_cons_self, e.1, e.2, by omega⟩
      · rw [if_neg e]
        exact .inl rfl
    · exact .inr ⟨c, List.mem_cons_of_mem _ hc, h1, h2, h3⟩

theorem T_succ_le (n : Net) (k p q : Nat) : T n (k + 1) p q ≤ T n k p q := by
  show min _ _ ≤ _
  omega
theorem T_mono (n : Net) (p q : Nat) : ∀ {j k : Nat}, j ≤ k → T n k p q ≤ T n j p q
  | j, k, h => by
    induction k with
    | zero => cases Nat.le_zero.mp h; exact Nat.le_refl _
    | succ k ih =>
      rcases Nat.lt_or_ge j (k + 1) with h' | h'
      · exact Nat.le_trans (T_succ_le n k p q) (ih (by omega))
      · have : j = k + 1 := by omega
        subst this
        exact Nat.le_refl _
theorem T_self (n : Net) (k p : Nat) : T n k p p = 0 := by
  have h0 : T0 n p p ≤ 0 := by
    unfold T0
    refine Nat.le_trans (fold_le p p _ _) ?_
    simp
  have := T_mono n p p (Nat.zero_le k)
  have e : T n 0 p p = T0 n p p := rfl
  omega
theorem T_le_never (n : Net) (k p q : Nat) : T n k p q ≤ NEVER := by
  refine Nat.le_trans (T_mono n p q (Nat.zero_le k)) (Nat.le_trans (fold_le p q _ _) ?_)
  split <;> simp [NEVER]
theorem T_le_car (n : Net) (k : Nat) {c : Car} (h : c ∈ n.cars) : T n k c.from_ c.to_ ≤ c.long :=
  Nat.le_trans (T_mono n _ _ (Nat.zero_le k)) (fold_le_car _ _ _ _ c h rfl rfl)

theorem T_tri (n : Net) : ∀ (k p q r : Nat), r < k → T n k p q ≤ T n k p r + handlingAt n r + T n k r q := by
  intro k
  induction k with
  | zero => intro p q r h; omega
  | succ k ih =>
    intro p q r h
    rcases Nat.lt_or_ge r k with h' | h'
    · have h1 := ih p q r h'
      have h2 := ih p k r h'
      have h3 := ih k q r h'
      show min _ _ ≤ min _ _ + _ + min _ _
      omega
    · have e : r = k := by omega
      subst e
      have s := T_self n r r
      show min _ _ ≤ min _ _ + _ + min _ _
      omega

theorem D_tri {n : Net} {p q r : Nat} (h : r < n.places.length) : D n p q ≤ D n p r + handlingAt n r + D n r q := T_tri n _ p q r h
theorem D_self (n : Net) (p : Nat) : D n p p = 0 := T_self n _ p
theorem D_never (n : Net) (p q : Nat) : D n p q ≤ NEVER := T_le_never n _ p q
theorem D_car {n : Net} {c : Car} (h : c ∈ n.cars) : D n c.from_ c.to_ ≤ c.long := T_le_car n _ h

/-- the first car of a way -/
theorem T_first {n : Net} (W : WF n) : ∀ (k p q : Nat), k ≤ n.places.length → p ≠ q → T n k p q < NEVER → ∃ c ∈ n.cars, c.from_ = p ∧ ((c.to_ = q ∧ c.long ≤ T n k p q) ∨ (c.to_ ≠ q ∧ c.long + handlingAt n c.to_ + D n c.to_ q ≤ T n k p q)) := by
  intro k
  induction k with
  | zero =>
    intro p q _ hne hlt
    rcases fold_is p q n.cars (if p = q then 0 else NEVER) with h | ⟨c, hc, h1, h2, h3⟩
    · rw [if_neg hne] at h
      have : T n 0 p q = NEVER := by
        show T0 n p q = _
        unfold T0
        rw [if_neg hne]
        exact h
      omega
    · exact ⟨c, hc, h1, .inl ⟨h2, Nat.le_of_eq h3.symm⟩⟩
  | succ k ih =>
    intro p q hk hne hlt
    have e : T n (k + 1) p q = min (T n k p q) (T n k p k + handlingAt n k + T n k k q) := rfl
    by_cases c0 : T n k p q ≤ T n k p k + handlingAt n k + T n k k q
    · have e' : T n (k + 1) p q = T n k p q := by omega
      rw [e'] at hlt ⊢
      exact ih p q (by omega) hne hlt
    · have e' : T n (k + 1) p q = T n k p k + handlingAt n k + T n k k q := by omega
      have hpk : p ≠ k := by
        rintro rfl
        have := T_self n p p
        omega
      have hkq : k ≠ q := by
        rintro rfl
        have := T_self n k k
        omega
      obtain ⟨c, hc, hf, h⟩ := ih p k (by omega) hpk (by omega)
      have m1 : D n k q ≤ T n k k q := T_mono n k q (by omega)
      refine ⟨c, hc, hf, ?_⟩
      rw [e']
      by_cases eq : c.to_ = q
      · refine .inl ⟨eq, ?_⟩
        rcases h with ⟨_, h⟩ | ⟨_, h⟩ <;> omega
      · refine .inr ⟨eq, ?_⟩
        rcases h with ⟨hk', h⟩ | ⟨hk', h⟩
        · rw [hk']
          omega
        · have := D_tri (n := n) (p := c.to_) (q := q) (r := k) (by omega)
          omega
/-- the last car of a way -/
theorem T_last {n : Net} (W : WF n) : ∀ (k p q : Nat), k ≤ n.places.length → p ≠ q → T n k p q < NEVER → ∃ c ∈ n.cars, c.to_ = q ∧ ((c.from_ = p ∧ c.long ≤ T n k p q) ∨ (c.from_ ≠ p ∧ D n p c.from_ + handlingAt n c.from_ + c.long ≤ T n k p q)) := by
  intro k
  induction k with
  | zero =>
    intro p q _ hne hlt
    rcases fold_is p q n.cars (if p = q then 0 else NEVER) with h | ⟨c, hc, h1, h2, h3⟩
    · rw [if_neg hne] at h
      have : T n 0 p q = NEVER := by
        show T0 n p q = _
        unfold T0
        rw [if_neg hne]
        exact h
      omega
    · exact ⟨c, hc, h2, .inl ⟨h1, Nat.le_of_eq h3.symm⟩⟩
  | succ k ih =>
    intro p q hk hne hlt
    have e : T n (k + 1) p q = min (T n k p q) (T n k p k + handlingAt n k + T n k k q) := rfl
    by_cases c0 : T n k p q ≤ T n k p k + handlingAt n k + T n k k q
    · have e' : T n (k + 1) p q = T n k p q := by omega
      rw [e'] at hlt ⊢
      exact ih p q (by omega) hne hlt
    · have e' : T n (k + 1) p q = T n k p k + handlingAt n k + T n k k q := by omega
      have hpk : p ≠ k := by
        rintro rfl
        have := T_self n p p
        omega
      have hkq : k ≠ q := by
        rintro rfl
        have := T_self n k k
        omega
      obtain ⟨c, hc, hf, h⟩ := ih k q (by omega) hkq (by omega)
      have m1 : D n p k ≤ T n k p k := T_mono n p k (by omega)
      refine ⟨c, hc, hf, ?_⟩
      rw [e']
      by_cases eq : c.from_ = p
      · refine .inl ⟨eq, ?_⟩
        rcases h with ⟨_, h⟩ | ⟨_, h⟩ <;> omega
      · refine .inr ⟨eq, ?_⟩
        rcases h with ⟨hk', h⟩ | ⟨hk', h⟩
        · rw [hk']
          omega
        · have := D_tri (n := n) (p := p) (q := c.from_) (r := k) (by omega)
          omega

theorem R_self (n : Net) (u : Nat) : R n u u = 0 := if_pos rfl
theorem R_ne {n : Net} {p u : Nat} (h : p ≠ u) : R n p u = D n p u + handlingAt n u := if_neg h
theorem R_car {n : Net} (W : WF n) {c : Car} (h : c ∈ n.cars) (u : Nat) : R n c.from_ u ≤ c.long + handlingAt n c.to_ + R n c.to_ u := by
  obtain ⟨h1, h2, h3, h4, h5⟩ := W.car c h
  have dc := D_car h
  by_cases e : c.from_ = u
  · rw [e, R_self]
    omega
  · rw [R_ne e]
    by_cases e2 : c.to_ = u
    · rw [e2, R_self]
      rw [e2] at dc
      omega
    · rw [R_ne e2]
      have := D_tri (n := n) (p := c.from_) (q := u) (r := c.to_) h2
      omega
theorem R_tri {n : Net} {p x u : Nat} (hx : x < n.places.length) : R n p u ≤ R n p x + R n x u := by
  by_cases e : p = u
  · subst e
    rw [R_self]
    omega
  · by_cases e1 : p = x
    · subst e1
      rw [R_self]
      omega
    · by_cases e2 : x = u
      · subst e2
        rw [R_self]
        omega
      · rw [R_ne e, R_ne e1, R_ne e2]
        have := D_tri (n := n) (p := p) (q := u) (r := x) hx
        omega
theorem R_first {n : Net} (W : WF n) {p u : Nat} (hne : p ≠ u) (h : D n p u < NEVER) : ∃ c ∈ n.cars, c.from_ = p ∧ R n p u = c.long + handlingAt n c.to_ + R n c.to_ u := by
  obtain ⟨c, hc, hf, h⟩ := T_first W n.places.length p u (Nat.le_refl _) hne h
  have := R_car W hc u
  rw [hf] at this
  refine ⟨c, hc, hf, Nat.le_antisymm this ?_⟩
  rw [R_ne hne]
  rcases h with ⟨h1, h2⟩ | ⟨h1, h2⟩
  · rw [h1, R_self]
    show _ ≤ T n n.places.length p u + _
    omega
  · rw [R_ne h1]
    show _ ≤ T n n.places.length p u + _
    omega

/-- how many places are nearer -/
def rank (n : Net) (u p : Nat) : Nat := (List.range n.places.length).countP fun q => decide (R n q u < R n p u)
theorem rank_lt {n : Net} {u p x : Nat} (hx : x < n.places.length) (h : R n x u < R n p u) : rank n u x < rank n u p := by
  refine countP_lt _ (fun q _ hq => ?_) ⟨x, List.mem_range.mpr hx, by simpa using h, by simp⟩
  simp at hq ⊢
  omega
theorem rank_lt_len {n : Net} {u p : Nat} (hp : p < n.places.length) : rank n u p < n.places.length := by
  have h : (List.range n.places.length).countP (fun q => decide (R n q u < R n p u)) < (List.range n.places.length).countP (fun _ => true) :=
    countP_lt _ (fun _ _ _ => rfl) ⟨p, List.mem_range.mpr hp, rfl, by simp⟩
  have e : (List.range n.places.length).countP (fun _ => true) = n.places.length := by simp
  unfold rank
  omega
theorem R_small {n : Net} (W : WF n) {u : Nat} : ∀ (r p : Nat), rank n u p ≤ r → p < n.places.length → (p = u ∨ D n p u < NEVER) → R n p u ≤ 11000 * r := by
  intro r
  induction r with
  | zero =>
    intro p hr hp h
    by_cases e : p = u
    · rw [e, R_self]
      omega
    · rcases h with h | h
      · exact absurd h e
      · obtain ⟨c, hc, hf, h1⟩ := R_first W e h
        obtain ⟨w1, w2, w3, w4, w5⟩ := W.car c hc
        have := rank_lt (n := n) (u := u) (p := p) w2 (by omega)
        omega
  | succ r ih =>
    intro p hr hp h
    by_cases e : p = u
    · rw [e, R_self]
      omega
    · rcases h with h | h
      · exact absurd h e
      · obtain ⟨c, hc, hf, h1⟩ := R_first W e h
        obtain ⟨w1, w2, w3, w4, w5⟩ := W.car c hc
        have lt := rank_lt (n := n) (u := u) (p := p) w2 (by omega)
        have hh := W.hand c.to_
        have := ih c.to_ (by omega) w2 (by
          by_cases e2 : c.to_ = u
          · exact .inl e2
          · refine .inr ?_
            rw [R_ne e, R_ne e2] at h1
            omega)
        omega
theorem R_bound {n : Net} (W : WF n) {p u : Nat} (hp : p < n.places.length) (h : R n p u < NEVER) : R n p u ≤ 77000 := by
  have := R_small W (u := u) _ p (Nat.le_refl _) hp (by
    by_cases e : p = u
    · exact .inl e
    · rw [R_ne e] at h
      exact .inr (by omega))
  have := rank_lt_len (n := n) (u := u) hp
  have := W.np
  omega
theorem D_bound {n : Net} (W : WF n) {p u : Nat} (hp : p < n.places.length) (h : D n p u < NEVER) : D n p u ≤ 77000 := by
  have b := R_small W (u := u) _ p (Nat.le_refl _) hp (.inr h)
  have := rank_lt_len (n := n) (u := u) hp
  have := W.np
  by_cases e : p = u
  · rw [e, D_self]
    omega
  · rw [R_ne e] at b
    omega
theorem R_never {n : Net} (W : WF n) {p u : Nat} (hp : p < n.places.length) : R n p u < NEVER ↔ D n p u < NEVER := by
  by_cases e : p = u
  · rw [e, R_self, D_self]
  · rw [R_ne e]
    have := W.hand u
    constructor
    · intro h
      omega
    · intro h
      have := D_bound W hp h
      have : NEVER = 1000000000 := rfl
      omega
end SJ
end
section
set_option autoImplicit false
namespace SJ
open Vbtoad

def enc (a : Option Nat) : Nat := a.getD NEVER
theorem enc_some (m : Nat) : enc (some m) = m := rfl
theorem enc_none : enc none = NEVER := rfl
def dec (m : Nat) : Option Nat := if m < NEVER then some m else none

/-! leastOf -/
theorem least_acc : ∀ (l : List (Option Nat)) (a : Option Nat), l.foldl sooner a = sooner a (leastOf l)
  | [], a => by cases a <;> rfl
  | x :: l, a => by
    show l.foldl sooner (sooner a x) = sooner a (l.foldl sooner (sooner none x))
    rw [least_acc l (sooner a x), least_acc l (sooner none x)]
    cases a <;> cases x <;> cases leastOf l <;> simp [sooner] <;> omega
theorem least_cons (x : Option Nat) (l : List (Option Nat)) : leastOf (x :: l) = sooner x (leastOf l) := by
  show l.foldl sooner (sooner none x) = _
  rw [least_acc]
  cases x <;> rfl
theorem least_le : ∀ {l : List (Option Nat)} {y : Nat}, some y ∈ l → ∃ m, leastOf l = some m ∧ m ≤ y
  | [], _, h => absurd h List.not_mem_nil
  | x :: l, y, h => by
    rw [least_cons]
    rcases List.mem_cons.mp h with rfl | h
    · cases leastOf l with
      | none => exact ⟨y, rfl, Nat.le_refl _⟩
      | some b => exact ⟨min y b, rfl, by omega⟩
    · obtain ⟨m, e, hm⟩ := least_le h
      rw [e]
      cases x with
      | none => exact ⟨m, rfl, hm⟩
      | some b => exact ⟨min b m, rfl, by omega⟩
theorem least_mem : ∀ {l : List (Option Nat)} {m : Nat}, leastOf l = some m → some m ∈ l
  | [], _, h => by cases h
  | x :: l, m, h => by
    rw [least_cons] at h
    cases x with
    | none => exact List.mem_cons_of_mem _ (least_mem h)
    | some b =>
      cases e : leastOf l with
      | none =>
        rw [e] at h
        cases h
        exact List.mem_cons_self
      | some c =>
        rw [e] at h
        have h' : min b c = m := Option.some.inj h
        by_cases k : b ≤ c
        · have : b = m := by omega
          subst this
          exact List.mem_cons_self
        · have : c = m := by omega
          subst this
          exact List.mem_cons_of_mem _ (least_mem e)
theorem least_is {l : List (Option Nat)} {m : Nat} (h1 : some m ∈ l) (h2 : ∀ y, some y ∈ l → m ≤ y) : leastOf l = some m := by
  obtain ⟨k, e, hk⟩ := least_le h1
  have := h2 k (least_mem e)
  rw [e]
  congr 1
  omega
theorem least_none {l : List (Option Nat)} (h : ∀ y, some y ∉ l) : leastOf l = none := by
  cases e : leastOf l with
  | none => rfl
  | some m => exact absurd (least_mem e) (h m)

/-! rounds -/
structure Good (n : Net) (u r : Nat) (l : List (Option Nat)) : Prop where
  len : l.length = n.places.length
  low : ∀ p m, l[p]? = some (some m) → R n p u ≤ m ∧ m ≤ 11000 * r
  all : ∀ p, p < n.places.length → R n p u < NEVER → rank n u p ≤ r → ∃ m, l[p]? = some (some m) ∧ m ≤ R n p u

theorem round_at (n : Net) (l : List (Option Nat)) (p : Nat) : (readyRound n l)[p]? = (l[p]?).map fun x => sooner x (leastOf (n.cars.map fun c => if c.from_ = p then ((l[c.to_]?).getD none).map fun m => c.long + handlingAt n c.to_ + m else none)) := by
  unfold readyRound
  rw [List.getElem?_map, List.getElem?_zipIdx]
  cases l[p]? <;> simp

theorem good_start {n : Net} (W : WF n) {u : Nat} (_hu : u < n.places.length) : Good n u 0 ((List.range n.places.length).map fun p => if p = u then some 0 else none) where
  len := by simp
  low := by
    intro p m h
    rw [List.getElem?_map] at h
    by_cases hp : p < n.places.length
    · rw [List.getElem?_range hp] at h
      have h' : (if p = u then some 0 else none) = some m := Option.some.inj h
      split at h'
      · next e =>
        cases h'
        rw [e, R_self]
        omega
      · cases h'
    · rw [List.getElem?_eq_none (by simpa using hp)] at h
      cases h
  all := by
    intro p hp hR hr
    have e : p = u := by
      by_cases e : p = u
      · exact e
      · obtain ⟨c, hc, hf, h1⟩ := R_first W e ((R_never W hp).mp hR)
        obtain ⟨w1, w2, w3, w4, w5⟩ := W.car c hc
        have := rank_lt (n := n) (u := u) (p := p) w2 (by omega)
        omega
    refine ⟨0, ?_, Nat.zero_le _⟩
    rw [List.getElem?_map, List.getElem?_range hp]
    simp [e]
theorem good_round {n : Net} (W : WF n) {u r : Nat} {l : List (Option Nat)} (G : Good n u r l) : Good n u (r + 1) (readyRound n l) where
  len := by
    unfold readyRound
    simp [G.len]
  low := by
    intro p m h
    rw [round_at] at h
    cases e : l[p]? with
    | none =>
      rw [e] at h
      cases h
    | some x =>
      rw [e] at h
      have h' := Option.some.inj h
      have two : x = some m ∨ leastOf (n.cars.map fun c => if c.from_ = p then ((l[c.to_]?).getD none).map fun m => c.long + handlingAt n c.to_ + m else none) = some m := by
        revert h'
        cases x with
        | none => exact fun h' => .inr h'
        | some a =>
          cases leastOf (n.cars.map fun c => if c.from_ = p then ((l[c.to_]?).getD none).map fun m => c.long + handlingAt n c.to_ + m else none) with
          | none => exact fun h' => .inl h'
          | some b =>
            intro h'
            have h' : min a b = m := Option.some.inj h'
            by_cases k : a ≤ b
            · exact .inl (congrArg some (by omega))
            · exact .inr (congrArg some (by omega))
      rcases two with rfl | hm
      · have := G.low p m e
        omega
      · obtain ⟨c, hc, hx⟩ := List.mem_map.mp (least_mem hm)
        split at hx
        · next ef =>
          cases ec : l[c.to_]? with
          | none =>
            rw [ec] at hx
            cases hx
          | some y =>
            rw [ec] at hx
            cases y with
            | none => cases hx
            | some z =>
              have hx : c.long + handlingAt n c.to_ + z = m := Option.some.inj hx
              have g := G.low _ _ ec
              have rc := R_car W hc u
              obtain ⟨w1, w2, w3, w4, w5⟩ := W.car c hc
              have hh := W.hand c.to_
              rw [ef] at rc
              omega
        · cases hx
  all := by
    intro p hp hR hr
    rw [round_at]
    have hl : p < l.length := by rw [G.len]; exact hp
    have e : l[p]? = some l[p] := List.getElem?_eq_getElem hl
    rw [e]
    by_cases hr' : rank n u p ≤ r
    · obtain ⟨m, e1, hm⟩ := G.all p hp hR hr'
      rw [e] at e1
      have e1 := Option.some.inj e1
      rw [e1]
      cases leastOf (n.cars.map fun c => if c.from_ = p then ((l[c.to_]?).getD none).map fun m => c.long + handlingAt n c.to_ + m else none) with
      | none => exact ⟨m, rfl, hm⟩
      | some b => exact ⟨min m b, rfl, by omega⟩
    · have hne : p ≠ u := by
        rintro rfl
        have : rank n p p = 0 := by
          unfold rank
          rw [R_self]
          simp
        omega
      obtain ⟨c, hc, hf, h1⟩ := R_first W hne ((R_never W hp).mp hR)
      obtain ⟨w1, w2, w3, w4, w5⟩ := W.car c hc
      have rl := rank_lt (n := n) (u := u) (p := p) w2 (by omega)
      obtain ⟨m, e1, hm⟩ := G.all c.to_ w2 (by omega) (by omega)
      have : some (c.long + handlingAt n c.to_ + m) ∈ n.cars.map fun c => if c.from_ = p then ((l[c.to_]?).getD none).map fun m => c.long + handlingAt n c.to_ + m else none := by
        refine List.mem_map.mpr ⟨c, hc, ?_⟩
        rw [if_pos hf, e1]
        rfl
      obtain ⟨k, ek, hk⟩ := least_le this
      rw [ek]
      cases l[p] with
      | none => exact ⟨k, rfl, by omega⟩
      | some b => exact ⟨min b k, rfl, by omega⟩
theorem good_rounds {n : Net} (W : WF n) {u : Nat} : ∀ (k r : Nat) (l : List (Option Nat)), Good n u r l → Good n u (r + k) (rounds n k l)
  | 0, _, _, G => G
  | k + 1, r, l, G => by
    have := good_rounds W k (r + 1) (readyRound n l) (good_round W G)
    have e : r + (k + 1) = r + 1 + k := by omega
    rw [e]
    exact this
theorem readyTo_good {n : Net} (W : WF n) {u : Nat} (hu : u < n.places.length) : Good n u n.places.length (readyTo n u) := by
  have := good_rounds W n.places.length 0 _ (good_start W hu)
  rw [Nat.zero_add] at this
  exact this
/-- **Ready by cars: the table tells it.** -/
theorem ready_is {n : Net} (W : WF n) {p u : Nat} (hp : p < n.places.length) (hu : u < n.places.length) : readyFrom (roadsOf n) p u = dec (R n p u) := by
  have G := readyTo_good W hu
  have e1 : readyFrom (roadsOf n) p u = ((readyTo n u)[p]?).getD none := by
    unfold readyFrom roadsOf
    rw [List.getElem?_map, List.getElem?_range hu]
    rfl
  rw [e1]
  unfold dec
  have hl : p < (readyTo n u).length := by rw [G.len]; exact hp
  split
  · next h =>
    obtain ⟨m, e, hm⟩ := G.all p hp h (Nat.le_of_lt (rank_lt_len hp))
    have := (G.low p m e).1
    rw [e]
    exact congrArg some (by omega)
  · next h =>
    rw [List.getElem?_eq_getElem hl]
    cases e : (readyTo n u)[p] with
    | none => rfl
    | some m =>
      have g := G.low p m (by rw [List.getElem?_eq_getElem hl, e])
      have := W.np
      have : NEVER = 1000000000 := rfl
      omega
/-- **Coming by cars: the table tells it.** -/
theorem drive_is {n : Net} (W : WF n) {p d : Nat} (hp : p < n.places.length) : driveTo n (roadsOf n) p d = dec (D n p d) := by
  unfold driveTo
  split
  · next e =>
    rw [e, D_self]
    rfl
  · next hne =>
    unfold dec
    have sound : ∀ y, some y ∈ n.cars.map (fun c => if c.to_ = d then (readyFrom (roadsOf n) p c.from_).map fun m => m + c.long else none) → D n p d ≤ y ∧ y < NEVER := by
      intro y hy
      obtain ⟨c, hc, hx⟩ := List.mem_map.mp hy
      obtain ⟨w1, w2, w3, w4, w5⟩ := W.car c hc
      split at hx
      · next ed =>
        rw [ready_is W hp w1] at hx
        unfold dec at hx
        split at hx
        · next hR =>
          have hx : R n p c.from_ + c.long = y := Option.some.inj hx
          have b := R_bound W hp hR
          have dc := D_car hc
          rw [ed] at dc
          have : NEVER = 1000000000 := rfl
          refine ⟨?_, by omega⟩
          by_cases ef : p = c.from_
          · rw [← ef] at dc
            omega
          · rw [R_ne ef] at hx
            have := D_tri (n := n) (p := p) (q := d) (r := c.from_) w1
            omega
        · cases hx
      · cases hx
    split
    · next h =>
      refine least_is ?_ fun y hy => (sound y hy).1
      obtain ⟨c, hc, hd, h'⟩ := T_last W n.places.length p d (Nat.le_refl _) hne h
      obtain ⟨w1, w2, w3, w4, w5⟩ := W.car c hc
      have lo : R n p c.from_ + c.long ≤ D n p d := by
        show _ ≤ T n n.places.length p d
        rcases h' with ⟨h1, h2⟩ | ⟨h1, h2⟩
        · rw [h1, R_self]
          omega
        · rw [R_ne (Ne.symm h1)]
          omega
      have mem : some (R n p c.from_ + c.long) ∈ n.cars.map (fun c => if c.to_ = d then (readyFrom (roadsOf n) p c.from_).map fun m => m + c.long else none) := by
        refine List.mem_map.mpr ⟨c, hc, ?_⟩
        rw [if_pos hd, ready_is W hp w1]
        unfold dec
        rw [if_pos (by omega)]
        rfl
      have := (sound _ mem).1
      have e : R n p c.from_ + c.long = D n p d := by omega
      rw [← e]
      exact mem
    · next h =>
      refine least_none fun y hy => ?_
      have := sound y hy
      omega
end SJ
end
section
set_option autoImplicit false
namespace SJ
open Vbtoad

/-! the program's reckoning over numbers: NEVER stands for none -/
def inTime (n : Net) (p t : Nat) : List Nat := (List.range n.goes.length).filter fun i => (n.goes[i]?).any fun g => decide (t + R n p g.from_ ≤ g.dep)
def carsAlone (n : Net) (d p t : Nat) : Nat := min NEVER (t + D n p d)
def wAt (ws : List Nat) (i : Nat) : Nat := (ws[i]?).getD NEVER
def sureM (n : Net) (d : Nat) (ws : List Nat) (p t : Nat) : Nat := if p = d then t else (inTime n p t).foldl (fun b i => min b (wAt ws i)) (carsAlone n d p t)
def thereM (n : Net) (d q c : Nat) : Nat := if q = d then c else c + handlingAt n q
def goesM (n : Net) (d : Nat) (ws : List Nat) (g : Go) : Nat := sureM n d ws g.to_ (thereM n d g.to_ g.arr)
def worthM (n : Net) (d : Nat) (fewer : Option (List Nat)) (ws : List Nat) (g : Go) : Nat := match fewer with
  | none => goesM n d ws g
  | some us => max (goesM n d ws g) (sureM n d us g.from_ (g.dep + 1))
def fillM (n : Net) (d : Nat) (fewer : Option (List Nat)) (order ws : List Nat) : List Nat := order.foldl (fun ws i => match n.goes[i]? with
  | some g => ws.set i (worthM n d fewer ws g)
  | none => ws) ws
def worthsM (n : Net) (d : Nat) : Nat → List Nat
  | 0 => fillM n d none (lastFirst n) (List.replicate n.goes.length NEVER)
  | k + 1 => fillM n d (some (worthsM n d k)) (lastFirst n) (List.replicate n.goes.length NEVER)

/-! the specification's tables -/
def look (vs : Table) (i : Nat) : Option Nat := (vs.find? fun v => v.1 == i).bind fun v => v.2
structure Rel (n : Net) (vs : Table) (ws : List Nat) : Prop where
  len : ws.length = n.goes.length
  nd : (vs.map fun v => v.1).Nodup
  at_ : ∀ i, i < n.goes.length → ws[i]? = some (enc (look vs i))
  low : ∀ i a, (i, some a) ∈ vs → a ≤ 200000
  key : ∀ v ∈ vs, v.1 < n.goes.length

theorem look_mem : ∀ {vs : Table} {i : Nat} {a : Nat}, look vs i = some a → (i, some a) ∈ vs
  | [], _, _, h => by cases h
  | v :: vs, i, a, h => by
    unfold look at h
    rw [List.find?_cons] at h
    by_cases e : v.1 = i
    · rw [show (v.1 == i) = true by simpa using e] at h
      have h : v.2 = some a := h
      have : v = (i, some a) := by
        rw [← e, ← h]
      rw [this]
      exact List.mem_cons_self
    · rw [show (v.1 == i) = false by simpa using e] at h
      exact List.mem_cons_of_mem _ (look_mem h)
theorem mem_look : ∀ {vs : Table} {i : Nat} {a : Nat}, (vs.map fun v => v.1).Nodup → (i, some a) ∈ vs → look vs i = some a
  | [], _, _, _, h => absurd h List.not_mem_nil
  | v :: vs, i, a, nd, h => by
    unfold look
    rw [List.find?_cons]
    rw [List.map_cons, List.nodup_cons] at nd
    rcases List.mem_cons.mp h with rfl | h
    · simp
    · have : v.1 ≠ i := by
        rintro rfl
        exact nd.1 (List.mem_map.mpr ⟨_, h, rfl⟩)
      rw [show (v.1 == i) = false by simpa using this]
      exact mem_look nd.2 h
theorem look_append {vs : Table} {i : Nat} {w : Option Nat} {j : Nat} (h : ∀ v ∈ vs, v.1 ≠ i) : look (vs ++ [(i, w)]) j = if j = i then w else look vs j := by
  unfold look
  rw [List.find?_append]
  by_cases e : j = i
  · subst e
    rw [if_pos rfl]
    have : vs.find? (fun v => v.1 == j) = none := by
      rw [List.find?_eq_none]
      intro v hv
      simpa using h v hv
    rw [this]
    simp
  · rw [if_neg e]
    cases vs.find? (fun v => v.1 == j) with
    | some v => rfl
    | none => simp [Ne.symm e]

/-- folds of min -/
theorem minfold_le (f : Nat → Nat) : ∀ (l : List Nat) (b : Nat), l.foldl (fun b i => min b (f i)) b ≤ b
  | [], _ => Nat.le_refl _
  | x :: l, b => by
    rw [List.foldl_cons]
    refine Nat.le_trans (minfold_le f l _) ?_
    omega
theorem minfold_le_at (f : Nat → Nat) : ∀ (l : List Nat) (b i : Nat), i ∈ l → l.foldl (fun b i => min b (f i)) b ≤ f i
  | [], _, _, h => absurd h List.not_mem_nil
  | x :: l, b, i, h => by
    rw [List.foldl_cons]
    rcases List.mem_cons.mp h with rfl | h
    · refine Nat.le_trans (minfold_le f l _) ?_
      omega
    · exact minfold_le_at f l _ i h
theorem minfold_is (f : Nat → Nat) : ∀ (l : List Nat) (b : Nat), l.foldl (fun b i => min b (f i)) b = b ∨ ∃ i ∈ l, l.foldl (fun b i => min b (f i)) b = f i
  | [], _ => .inl rfl
  | x :: l, b => by
    rw [List.foldl_cons]
    rcases minfold_is f l (min b (f x)) with h | ⟨i, hi, h⟩
    · rw [h]
      by_cases k : b ≤ f x
      · exact .inl (by omega)
      · exact .inr ⟨x, List.mem_cons_self, by omega⟩
    · exact .inr ⟨i, List.mem_cons_of_mem _ hi, h⟩

theorem mem_inTime {n : Net} {p t i : Nat} : i ∈ inTime n p t ↔ ∃ g, n.goes[i]? = some g ∧ t + R n p g.from_ ≤ g.dep := by
  unfold inTime
  rw [List.mem_filter, List.mem_range]
  constructor
  · rintro ⟨_, h⟩
    cases e : n.goes[i]? with
    | none =>
      rw [e] at h
      cases h
    | some g =>
      rw [e] at h
      exact ⟨g, rfl, by simpa using h⟩
  · rintro ⟨g, e, h⟩
    refine ⟨(List.getElem?_eq_some_iff.mp e).1, ?_⟩
    rw [e]
    simpa using h

/-- what the specification's departures give -/
def offers (n : Net) (vs : Table) (p t : Nat) : List (Option Nat) := vs.map fun v => match n.goes[v.1]?, v.2 with
  | some g, some a => (match readyFrom (roadsOf n) p g.from_ with
    | some m => if t + m ≤ g.dep then some a else none
    | none => none)
  | _, _ => none
theorem sureBy_eq (n : Net) (d : Nat) (vs : Table) (p t : Nat) : sureBy n (roadsOf n) d vs p t = if p = d then some t else sooner ((driveTo n (roadsOf n) p d).map fun m => t + m) (leastOf (offers n vs p t)) := rfl
theorem mem_offers {n : Net} (W : WF n) {vs : Table} {p t a : Nat} (hp : p < n.places.length) (nd : (vs.map fun v => v.1).Nodup) : some a ∈ offers n vs p t ↔ ∃ i, i ∈ inTime n p t ∧ look vs i = some a := by
  unfold offers
  rw [List.mem_map]
  constructor
  · rintro ⟨v, hv, h⟩
    split at h
    · next g b e1 e2 =>
      have hg := W.go g (List.mem_of_getElem? e1)
      rw [ready_is W hp hg.1] at h
      unfold dec at h
      by_cases hr : R n p g.from_ < NEVER
      · rw [if_pos hr] at h
        have h : (if t + R n p g.from_ ≤ g.dep then some b else none) = some a := h
        split at h
        · next ht =>
          refine ⟨v.1, mem_inTime.mpr ⟨g, e1, ht⟩, mem_look nd ?_⟩
          rw [← h, ← e2]
          exact hv
        · cases h
      · rw [if_neg hr] at h
        cases h
    · cases h
  · rintro ⟨i, hi, hl⟩
    obtain ⟨g, e, ht⟩ := mem_inTime.mp hi
    refine ⟨(i, some a), look_mem hl, ?_⟩
    have hg := W.go g (List.mem_of_getElem? e)
    have hr : R n p g.from_ < NEVER := by
      have : NEVER = 1000000000 := rfl
      omega
    simp only [e]
    rw [ready_is W hp hg.1]
    unfold dec
    rw [if_pos hr]
    show (if t + R n p g.from_ ≤ g.dep then some a else none) = some a
    rw [if_pos ht]

/-- **What's sure, in numbers.** -/
theorem sure_is {n : Net} (W : WF n) {d : Nat} {vs : Table} {ws : List Nat} (C : Rel n vs ws) {p t : Nat} (hp : p < n.places.length) (ht : t ≤ 100000000) :
    sureM n d ws p t = enc (sureBy n (roadsOf n) d vs p t) ∧ (∀ a, sureBy n (roadsOf n) d vs p t = some a → a < NEVER ∧ (a ≤ t + 77000 ∨ a ≤ 200000)) := by
  have hN : NEVER = 1000000000 := rfl
  rw [sureBy_eq]
  unfold sureM
  by_cases e : p = d
  · rw [if_pos e, if_pos e]
    refine ⟨rfl, fun a h => ?_⟩
    have h : t = a := Option.some.inj h
    exact ⟨by omega, .inl (by omega)⟩
  · rw [if_neg e, if_neg e, drive_is W hp]
    have look_low : ∀ i a, look vs i = some a → a ≤ 200000 := fun i a h => C.low i a (look_mem h)
    have wl : ∀ i, i ∈ inTime n p t → wAt ws i = enc (look vs i) := by
      intro i hi
      obtain ⟨g, eg, _⟩ := mem_inTime.mp hi
      unfold wAt
      rw [C.at_ i (List.getElem?_eq_some_iff.mp eg).1]
      rfl
    have db : D n p d < NEVER → D n p d ≤ 77000 := D_bound W hp
    have dn := D_never n p d
    -- the least of the two
    have F := minfold_is (wAt ws) (inTime n p t) (carsAlone n d p t)
    have L0 := minfold_le (wAt ws) (inTime n p t) (carsAlone n d p t)
    have L1 := minfold_le_at (wAt ws) (inTime n p t) (carsAlone n d p t)
    have ca : carsAlone n d p t = min NEVER (t + D n p d) := rfl
    generalize (inTime n p t).foldl (fun b i => min b (wAt ws i)) (carsAlone n d p t) = m at F L0 L1 ⊢
    cases eo : leastOf (offers n vs p t) with
    | none =>
      have all : ∀ i, i ∈ inTime n p t → wAt ws i = NEVER := by
        intro i hi
        rw [wl i hi]
        cases el : look vs i with
        | none => rfl
        | some a =>
          obtain ⟨k, ek, _⟩ := least_le ((mem_offers W hp C.nd).mpr ⟨i, hi, el⟩)
          rw [ek] at eo
          cases eo
      have em : m = carsAlone n d p t := by
        rcases F with h | ⟨i, hi, h⟩
        · exact h
        · rw [all i hi] at h
          omega
      clear F L1
      unfold dec
      by_cases hd : D n p d < NEVER
      · rw [if_pos hd]
        refine ⟨?_, fun a h => ?_⟩
        · show m = t + D n p d
          have := db hd
          omega
        · have h : t + D n p d = a := Option.some.inj h
          have := db hd
          exact ⟨by omega, .inl (by omega)⟩
      · rw [if_neg hd]
        refine ⟨?_, fun a h => by cases h⟩
        show m = NEVER
        omega
    | some b =>
      obtain ⟨i, hi, el⟩ := (mem_offers W hp C.nd).mp (least_mem eo)
      have hb := look_low i b el
      have mb : m ≤ b := by
        have := L1 i hi
        rw [wl i hi, el] at this
        exact this
      have low : ∀ j, j ∈ inTime n p t → b ≤ wAt ws j := by
        intro j hj
        rw [wl j hj]
        cases ej : look vs j with
        | none =>
          show b ≤ NEVER
          omega
        | some a =>
          obtain ⟨k, ek, hk⟩ := least_le ((mem_offers W hp C.nd).mpr ⟨j, hj, ej⟩)
          rw [ek] at eo
          cases eo
          exact hk
      have em : m = min (carsAlone n d p t) b := by
        rcases F with h | ⟨j, hj, h⟩
        · omega
        · have := low j hj
          omega
      clear F L1
      unfold dec
      by_cases hd : D n p d < NEVER
      · rw [if_pos hd]
        have := db hd
        refine ⟨?_, fun a h => ?_⟩
        · show m = min (t + D n p d) b
          omega
        · have h : min (t + D n p d) b = a := Option.some.inj h
          exact ⟨by omega, .inr (by omega)⟩
      · rw [if_neg hd]
        refine ⟨?_, fun a h => ?_⟩
        · show m = b
          omega
        · cases h
          exact ⟨by omega, .inr hb⟩

theorem gone_is {n : Net} (W : WF n) {d : Nat} {vs : Table} {ws : List Nat} (C : Rel n vs ws) {g : Go} (hg : g ∈ n.goes) :
    goesM n d ws g = enc (gone n (roadsOf n) d vs g) ∧ ∀ a, gone n (roadsOf n) d vs g = some a → a ≤ 200000 := by
  obtain ⟨g1, g2, g3, g4, g5⟩ := W.go g hg
  unfold goesM thereM gone
  by_cases e : g.to_ = d
  · rw [if_pos e, if_pos e]
    refine ⟨?_, fun a h => ?_⟩
    · unfold sureM
      rw [if_pos e]
      rfl
    · cases h
      omega
  · rw [if_neg e, if_neg e]
    have hh := W.hand g.to_
    have S := sure_is W (d := d) C (p := g.to_) (t := g.arr + handlingAt n g.to_) g2 (by omega)
    refine ⟨S.1, fun a h => ?_⟩
    have := (S.2 a h).2
    omega
theorem enc_later {a b : Option Nat} (ha : ∀ x, a = some x → x < NEVER) (hb : ∀ x, b = some x → x < NEVER) : enc (later a b) = max (enc a) (enc b) := by
  cases a with
  | none =>
    cases b with
    | none => rfl
    | some y =>
      have := hb y rfl
      show NEVER = max NEVER y
      omega
  | some x =>
    have := ha x rfl
    cases b with
    | none =>
      show NEVER = max x NEVER
      omega
    | some y => rfl
theorem worth_is {n : Net} (W : WF n) {d : Nat} {fv : Option Table} {fw : Option (List Nat)} (F : match fv, fw with
      | none, none => True
      | some us, some xs => Rel n us xs
      | _, _ => False) {vs : Table} {ws : List Nat} (C : Rel n vs ws) {i : Nat} {g : Go} (hi : n.goes[i]? = some g) :
    worthM n d fw ws g = enc (worth n (roadsOf n) d fv vs i) ∧ ∀ a, worth n (roadsOf n) d fv vs i = some a → a ≤ 200000 := by
  have hg := List.mem_of_getElem? hi
  have G := gone_is W (d := d) C hg
  have hN : NEVER = 1000000000 := rfl
  unfold worth
  rw [hi]
  match fv, fw, F with
  | none, none, _ => exact G
  | some us, some xs, F =>
    obtain ⟨g1, g2, g3, g4, g5⟩ := W.go g hg
    have S := sure_is W (d := d) F (p := g.from_) (t := g.dep + 1) g1 (by omega)
    refine ⟨?_, fun a h => ?_⟩
    · show max (goesM n d ws g) (sureM n d xs g.from_ (g.dep + 1)) = enc (later _ _)
      rw [enc_later (fun x h => by have := G.2 x h; omega) (fun x h => (S.2 x h).1), G.1, S.1]
    · have h : later (gone n (roadsOf n) d vs g) (sureBy n (roadsOf n) d us g.from_ (g.dep + 1)) = some a := h
      cases e1 : gone n (roadsOf n) d vs g with
      | none =>
        rw [e1] at h
        cases h
      | some x =>
        cases e2 : sureBy n (roadsOf n) d us g.from_ (g.dep + 1) with
        | none =>
          rw [e1, e2] at h
          cases h
        | some y =>
          rw [e1, e2] at h
          have h : max x y = a := Option.some.inj h
          have := G.2 x e1
          have := (S.2 y e2).2
          omega

/-! the order of the departures -/
theorem putLater_perm (n : Net) (i : Nat) : ∀ l, (putLater n i l).Perm (i :: l)
  | [] => .refl _
  | j :: l => by
    unfold putLater
    split
    · exact .refl _
    · exact ((putLater_perm n i l).cons j).trans (.swap i j l)
theorem lastFirst_perm (n : Net) : (lastFirst n).Perm (List.range n.goes.length) := by
  have gen : ∀ (l acc : List Nat), (l.foldl (fun l i => putLater n i l) acc).Perm (l ++ acc) := by
    intro l
    induction l with
    | nil => exact fun acc => .refl _
    | cons x l ih =>
      intro acc
      rw [List.foldl_cons]
      refine (ih _).trans ?_
      refine ((putLater_perm n x acc).append_left l).trans ?_
      rw [List.cons_append]
      exact List.perm_middle
  have := gen (List.range n.goes.length) []
  rw [List.append_nil] at this
  exact this

theorem rel_start (n : Net) : Rel n [] (List.replicate n.goes.length NEVER) where
  len := by simp
  nd := List.nodup_nil
  at_ := by
    intro i hi
    rw [List.getElem?_replicate, if_pos hi]
    rfl
  low := by
    intro i a h
    cases h
  key := by
    intro v h
    cases h
theorem rel_put {n : Net} {vs : Table} {ws : List Nat} (C : Rel n vs ws) {i : Nat} (hi : i < n.goes.length) (new : ∀ v ∈ vs, v.1 ≠ i) {w : Option Nat} (hw : ∀ a, w = some a → a ≤ 200000) : Rel n (vs ++ [(i, w)]) (ws.set i (enc w)) where
  len := by rw [List.length_set, C.len]
  nd := by
    rw [List.map_append, List.nodup_append]
    refine ⟨C.nd, by simp, ?_⟩
    intro a ha b hb
    obtain ⟨v, hv, rfl⟩ := List.mem_map.mp ha
    have : b = i := by simpa using hb
    rw [this]
    exact new v hv
  at_ := by
    intro j hj
    rw [look_append new]
    by_cases e : j = i
    · subst e
      rw [if_pos rfl, List.getElem?_set_self (by rw [C.len]; exact hj)]
    · rw [if_neg e, List.getElem?_set_ne (Ne.symm e)]
      exact C.at_ j hj
  low := by
    intro j a h
    rcases List.mem_append.mp h with h | h
    · exact C.low j a h
    · have h : (j, some a) = (i, w) := by simpa using h
      cases h
      exact hw a rfl
  key := by
    intro v h
    rcases List.mem_append.mp h with h | h
    · exact C.key v h
    · have : v = (i, w) := by simpa using h
      rw [this]
      exact hi

theorem fill_rel {n : Net} (W : WF n) {d : Nat} {fv : Option Table} {fw : Option (List Nat)} (F : match fv, fw with
      | none, none => True
      | some us, some xs => Rel n us xs
      | _, _ => False) : ∀ (order : List Nat) (vs : Table) (ws : List Nat), Rel n vs ws → order.Nodup → (∀ i ∈ order, i < n.goes.length) → (∀ i ∈ order, ∀ v ∈ vs, v.1 ≠ i) →
    Rel n (order.foldl (fun vs i => vs ++ [(i, worth n (roadsOf n) d fv vs i)]) vs) (fillM n d fw order ws)
  | [], _, _, C, _, _, _ => C
  | i :: order, vs, ws, C, nd, lt, new => by
    have hi := lt i List.mem_cons_self
    have eg : n.goes[i]? = some n.goes[i] := List.getElem?_eq_getElem hi
    have S := worth_is W (d := d) F C eg
    unfold fillM
    rw [List.foldl_cons, List.foldl_cons]
    simp only [eg]
    rw [S.1]
    rw [List.nodup_cons] at nd
    refine fill_rel W F order _ _ (rel_put C hi (new i List.mem_cons_self) S.2) nd.2 (fun j hj => lt j (List.mem_cons_of_mem _ hj)) ?_
    intro j hj v hv
    rcases List.mem_append.mp hv with hv | hv
    · exact new j (List.mem_cons_of_mem _ hj) v hv
    · have : v = (i, worth n (roadsOf n) d fv vs i) := by simpa using hv
      rw [this]
      rintro rfl
      exact nd.1 hj
/-- **Worths, in numbers.** -/
theorem worths_rel {n : Net} (W : WF n) (d : Nat) : ∀ k, Rel n (tableFor n (roadsOf n) d k) (worthsM n d k)
  | 0 => fill_rel W (fv := none) (fw := none) trivial _ _ _ (rel_start n) ((lastFirst_perm n).nodup_iff.mpr List.nodup_range) (fun _ hi => List.mem_range.mp ((lastFirst_perm n).mem_iff.mp hi)) (fun _ _ _ h => by cases h)
  | k + 1 => fill_rel W (fv := some _) (fw := some _) (worths_rel W d k) _ _ _ (rel_start n) ((lastFirst_perm n).nodup_iff.mpr List.nodup_range) (fun _ hi => List.mem_range.mp ((lastFirst_perm n).mem_iff.mp hi)) (fun _ _ _ h => by cases h)
theorem sureIn_is {n : Net} (W : WF n) (d k : Nat) {p t : Nat} (hp : p < n.places.length) (ht : t ≤ 100000000) :
    sureM n d (worthsM n d k) p t = enc (sureIn n (roadsOf n) d k p t) ∧ (∀ a, sureIn n (roadsOf n) d k p t = some a → a < NEVER ∧ (a ≤ t + 77000 ∨ a ≤ 200000)) := sure_is W (worths_rel W d k) hp ht
end SJ
end
section
set_option autoImplicit false
namespace SJ
open Vbtoad

theorem find_congr {α : Type} {p q : α → Bool} : ∀ {l : List α}, (∀ x ∈ l, p x = q x) → l.find? p = l.find? q
  | [], _ => rfl
  | a :: l, h => by
    rw [List.find?_cons, List.find?_cons, h a List.mem_cons_self, find_congr fun x hx => h x (List.mem_cons_of_mem _ hx)]

/-! what to do, in numbers -/
def goodGoal (n : Net) (d p : Nat) (x : Car) : Bool := x.from_ == p && thereM n d x.to_ x.long + D n x.to_ d == D n p d
def goodReady (n : Net) (p u : Nat) (x : Car) : Bool := x.from_ == p && x.long + handlingAt n x.to_ + R n x.to_ u == R n p u
def firstCar (n : Net) (f : Car → Bool) : Option Nat := (List.range n.cars.length).find? fun c => (n.cars[c]?).any f
def goodGo (n : Net) (ws : List Nat) (p t a : Nat) : List Nat := (inTime n p t).filter fun i => wAt ws i == a
def toDoM (n : Net) (d : Nat) (ws : List Nat) (p t : Nat) : Option Act :=
  if p = d then some .there
  else if sureM n d ws p t = NEVER then none
  else if carsAlone n d p t = sureM n d ws p t then (firstCar n (goodGoal n d p)).map .drive
  else match firstGoing n (goodGo n ws p t (sureM n d ws p t)) with
    | none => none
    | some i => match n.goes[i]? with
      | none => none
      | some g => if g.from_ = p then some (.wait i) else (firstCar n (goodReady n p g.from_)).map .drive

theorem carTo_is {n : Net} (W : WF n) {p d : Nat} (hp : p < n.places.length) (hd : D n p d < NEVER) : carTo n (roadsOf n) p d = firstCar n (goodGoal n d p) := by
  unfold carTo firstCar
  refine find_congr fun c _ => ?_
  cases e : n.cars[c]? with
  | none => rfl
  | some x =>
    have hx := List.mem_of_getElem? e
    obtain ⟨w1, w2, w3, w4, w5⟩ := W.car x hx
    show (x.from_ == p && _) = goodGoal n d p x
    unfold goodGoal thereM
    rw [drive_is W hp, drive_is W w2]
    congr 1
    unfold dec
    rw [if_pos hd]
    by_cases ed : x.to_ = d
    · rw [if_pos ed, if_pos ed, ed, D_self]
    · rw [if_neg ed, if_neg ed]
      by_cases h : D n x.to_ d < NEVER
      · rw [if_pos h]
        show (x.long + (D n x.to_ d + handlingAt n x.to_) == D n p d) = _
        congr 1
        omega
      · rw [if_neg h]
        show false = _
        symm
        rw [beq_eq_false_iff_ne]
        omega
theorem carTowards_is {n : Net} (W : WF n) {p u : Nat} (hp : p < n.places.length) (hu : u < n.places.length) (hd : R n p u < NEVER) : carTowards n (roadsOf n) p u = firstCar n (goodReady n p u) := by
  unfold carTowards firstCar
  refine find_congr fun c _ => ?_
  cases e : n.cars[c]? with
  | none => rfl
  | some x =>
    have hx := List.mem_of_getElem? e
    obtain ⟨w1, w2, w3, w4, w5⟩ := W.car x hx
    show (x.from_ == p && _) = goodReady n p u x
    unfold goodReady
    rw [ready_is W hp hu, ready_is W w2 hu]
    congr 1
    unfold dec
    rw [if_pos hd]
    by_cases h : R n x.to_ u < NEVER
    · rw [if_pos h]
    · rw [if_neg h]
      show false = _
      symm
      rw [beq_eq_false_iff_ne]
      omega

theorem goodGo_is {n : Net} (W : WF n) {vs : Table} {ws : List Nat} (C : Rel n vs ws) {p t a : Nat} (hp : p < n.places.length) (ha : a < NEVER) :
    ((List.range n.goes.length).filter fun i => (n.goes[i]?).any fun g => ((vs.find? fun v => v.1 == i).bind fun v => v.2) == some a && (readyFrom (roadsOf n) p g.from_).any fun m => decide (t + m ≤ g.dep)) = goodGo n ws p t a := by
  unfold goodGo inTime
  rw [List.filter_filter]
  refine List.filter_congr fun i hi => ?_
  have hi := List.mem_range.mp hi
  have eg : n.goes[i]? = some n.goes[i] := List.getElem?_eq_getElem hi
  rw [eg]
  have hg := W.go _ (List.mem_of_getElem? eg)
  show (look vs i == some a && (readyFrom (roadsOf n) p n.goes[i].from_).any fun m => decide (t + m ≤ n.goes[i].dep)) = (wAt ws i == a && decide (t + R n p n.goes[i].from_ ≤ n.goes[i].dep))
  rw [ready_is W hp hg.1]
  have hN : NEVER = 1000000000 := rfl
  congr 1
  · unfold wAt
    rw [C.at_ i hi]
    show _ = (enc (look vs i) == a)
    cases look vs i with
    | none =>
      show false = (NEVER == a)
      symm
      rw [beq_eq_false_iff_ne]
      omega
    | some b => rfl
  · unfold dec
    by_cases h : R n p n.goes[i].from_ < NEVER
    · rw [if_pos h]
      rfl
    · rw [if_neg h]
      show false = _
      symm
      rw [decide_eq_false_iff_not]
      omega

theorem firstGoing_mem (n : Net) : ∀ {l : List Nat} {i : Nat}, firstGoing n l = some i → i ∈ l := by
  have gen : ∀ (l : List Nat) (b : Option Nat) (i : Nat), l.foldl (fun (b : Option Nat) i => match b with
    | none => some i
    | some j => if ((n.goes[i]?).map fun g => g.dep).getD 0 < ((n.goes[j]?).map fun g => g.dep).getD 0 then some i else b) b = some i → b = some i ∨ i ∈ l := by
    intro l
    induction l with
    | nil => exact fun b i h => .inl h
    | cons x l ih =>
      intro b i h
      rw [List.foldl_cons] at h
      rcases ih _ i h with h | h
      · cases b with
        | none =>
          cases h
          exact .inr List.mem_cons_self
        | some j =>
          have h : (if ((n.goes[x]?).map fun g => g.dep).getD 0 < ((n.goes[j]?).map fun g => g.dep).getD 0 then some x else some j) = some i := h
          split at h
          · cases h
            exact .inr List.mem_cons_self
          · exact .inl h
      · exact .inr (List.mem_cons_of_mem _ h)
  intro l i h
  rcases gen l none i h with h | h
  · cases h
  · exact h

/-- **What to do, in numbers.** -/
theorem toDo_is {n : Net} (W : WF n) (d k : Nat) {p t : Nat} (hp : p < n.places.length) (ht : t ≤ 100000000) : toDo n (roadsOf n) d k p t = toDoM n d (worthsM n d k) p t := by
  have C := worths_rel W d k
  have S := sureIn_is W d k hp ht
  have hN : NEVER = 1000000000 := rfl
  unfold toDo toDoM
  by_cases e : p = d
  · rw [if_pos e, if_pos e]
  · rw [if_neg e, if_neg e, S.1]
    cases es : sureIn n (roadsOf n) d k p t with
    | none => rw [if_pos (show enc none = NEVER from rfl)]
    | some a =>
      have ha := (S.2 a es).1
      rw [if_neg (show ¬ enc (some a) = NEVER by show ¬ a = NEVER; omega)]
      show (if _ then _ else _) = _
      have test : ((driveTo n (roadsOf n) p d).any fun m => t + m == a) = true ↔ carsAlone n d p t = enc (some a) := by
        rw [drive_is W hp]
        unfold dec carsAlone
        have dn := D_never n p d
        by_cases h : D n p d < NEVER
        · have := D_bound W hp h
          rw [if_pos h]
          show (t + D n p d == a) = true ↔ min NEVER (t + D n p d) = a
          rw [beq_iff_eq]
          omega
        · rw [if_neg h]
          show false = true ↔ min NEVER (t + D n p d) = a
          constructor
          · intro h
            cases h
          · intro h
            omega
      by_cases hc : carsAlone n d p t = enc (some a)
      · rw [if_pos (test.mpr hc), if_pos hc, carTo_is W hp]
        unfold carsAlone at hc
        have : min NEVER (t + D n p d) = a := hc
        omega
      · rw [if_neg (fun h => hc (test.mp h)), if_neg hc]
        show (match firstGoing n _ with
          | none => none
          | some i => match n.goes[i]? with
            | none => none
            | some g => if g.from_ = p then some (Act.wait i) else (carTowards n (roadsOf n) p g.from_).map .drive) = _
        rw [goodGo_is W C hp ha]
        show _ = (match firstGoing n (goodGo n (worthsM n d k) p t a) with
          | none => none
          | some i => match n.goes[i]? with
            | none => none
            | some g => if g.from_ = p then some (Act.wait i) else (firstCar n (goodReady n p g.from_)).map .drive)
        cases ef : firstGoing n (goodGo n (worthsM n d k) p t a) with
        | none => rfl
        | some i =>
          have hi := (List.mem_filter.mp (firstGoing_mem n ef)).1
          obtain ⟨g, eg, hg⟩ := mem_inTime.mp hi
          simp only [eg]
          have wg := W.go g (List.mem_of_getElem? eg)
          split
          · rfl
          · rw [carTowards_is W hp wg.1 (by omega)]

/-! the cars and departures chosen are there -/
theorem firstCar_some {n : Net} {f : Car → Bool} {c : Car} (hc : c ∈ n.cars) (h : f c = true) : ∃ i x, firstCar n f = some i ∧ n.cars[i]? = some x ∧ f x = true := by
  obtain ⟨i, hi, e⟩ := List.mem_iff_getElem.mp hc
  cases ef : firstCar n f with
  | none =>
    unfold firstCar at ef
    rw [List.find?_eq_none] at ef
    have := ef i (List.mem_range.mpr hi)
    rw [List.getElem?_eq_getElem hi, e] at this
    exact absurd h this
  | some j =>
    unfold firstCar at ef
    have := List.find?_some ef
    cases ex : n.cars[j]? with
    | none =>
      rw [ex] at this
      cases this
    | some x =>
      rw [ex] at this
      exact ⟨j, x, rfl, ex, this⟩
theorem goal_car {n : Net} (W : WF n) {p d : Nat} (hne : p ≠ d) (h : D n p d < NEVER) : ∃ i x, firstCar n (goodGoal n d p) = some i ∧ n.cars[i]? = some x ∧ goodGoal n d p x = true := by
  obtain ⟨c, hc, hf, hx⟩ := T_first W n.places.length p d (Nat.le_refl _) hne h
  refine firstCar_some hc ?_
  obtain ⟨w1, w2, w3, w4, w5⟩ := W.car c hc
  have dc := D_car hc
  rw [hf] at dc
  have eD : T n n.places.length p d = D n p d := rfl
  rw [eD] at hx
  unfold goodGoal thereM
  rw [Bool.and_eq_true, beq_iff_eq, beq_iff_eq]
  refine ⟨hf, ?_⟩
  rcases hx with ⟨h1, h2⟩ | ⟨h1, h2⟩
  · rw [if_pos h1, h1, D_self]
    rw [h1] at dc
    omega
  · rw [if_neg h1]
    have := D_tri (n := n) (p := p) (q := d) (r := c.to_) w2
    omega
theorem ready_car {n : Net} (W : WF n) {p u : Nat} (hp : p < n.places.length) (hne : p ≠ u) (h : R n p u < NEVER) : ∃ i x, firstCar n (goodReady n p u) = some i ∧ n.cars[i]? = some x ∧ goodReady n p u x = true := by
  obtain ⟨c, hc, hf, hx⟩ := R_first W hne ((R_never W hp).mp h)
  refine firstCar_some hc ?_
  unfold goodReady
  rw [Bool.and_eq_true, beq_iff_eq, beq_iff_eq]
  exact ⟨hf, hx.symm⟩

/-! the departure that goes first -/
def depAt (n : Net) (i : Nat) : Nat := ((n.goes[i]?).map fun g => g.dep).getD 0
def firstStep (n : Net) (b : Option Nat) (i : Nat) : Option Nat := match b with
  | none => some i
  | some j => if depAt n i < depAt n j then some i else b
theorem firstGoing_eq (n : Net) (l : List Nat) : firstGoing n l = l.foldl (firstStep n) none := rfl
theorem first_keep (n : Net) : ∀ (l : List Nat) (j : Nat), (∀ x ∈ l, j < x) → l.Pairwise (· < ·) → ∃ i, l.foldl (firstStep n) (some j) = some i ∧ (i = j ∨ i ∈ l) ∧ (depAt n i < depAt n j ∨ i = j) ∧ ∀ x ∈ l, depAt n i < depAt n x ∨ (depAt n i = depAt n x ∧ i ≤ x)
  | [], j, _, _ => ⟨j, rfl, .inl rfl, .inr rfl, fun _ h => absurd h List.not_mem_nil⟩
  | x :: l, j, hj, hl => by
    rw [List.pairwise_cons] at hl
    rw [List.foldl_cons]
    have hx := hj x List.mem_cons_self
    by_cases c : depAt n x < depAt n j
    · have e : firstStep n (some j) x = some x := if_pos c
      rw [e]
      obtain ⟨i, e1, e2, e3, e4⟩ := first_keep n l x hl.1 hl.2
      refine ⟨i, e1, ?_, ?_, ?_⟩
      · rcases e2 with rfl | e2
        · exact .inr List.mem_cons_self
        · exact .inr (List.mem_cons_of_mem _ e2)
      · rcases e3 with e3 | rfl
        · exact .inl (by omega)
        · exact .inl c
      · intro y hy
        rcases List.mem_cons.mp hy with rfl | hy
        · rcases e3 with e3 | rfl
          · exact .inl e3
          · exact .inr ⟨rfl, Nat.le_refl _⟩
        · exact e4 y hy
    · have e : firstStep n (some j) x = some j := if_neg c
      rw [e]
      obtain ⟨i, e1, e2, e3, e4⟩ := first_keep n l j (fun y hy => hj y (List.mem_cons_of_mem _ hy)) hl.2
      refine ⟨i, e1, ?_, e3, ?_⟩
      · rcases e2 with rfl | e2
        · exact .inl rfl
        · exact .inr (List.mem_cons_of_mem _ e2)
      · intro y hy
        rcases List.mem_cons.mp hy with rfl | hy
        · rcases e3 with e3 | rfl
          · exact .inl (by omega)
          · by_cases c2 : depAt n i < depAt n y
            · exact .inl c2
            · exact .inr ⟨by omega, by omega⟩
        · exact e4 y hy
/-- the one that goes first, of those the one told first -/
def IsFirst (n : Net) (l : List Nat) (i : Nat) : Prop := i ∈ l ∧ ∀ x ∈ l, depAt n i < depAt n x ∨ (depAt n i = depAt n x ∧ i ≤ x)
theorem isFirst_unique {n : Net} {l : List Nat} {i j : Nat} (hi : IsFirst n l i) (hj : IsFirst n l j) : i = j := by
  have := hi.2 j hj.1
  have := hj.2 i hi.1
  omega
theorem firstGoing_is {n : Net} {l : List Nat} (hl : l.Pairwise (· < ·)) (hne : l ≠ []) : ∃ i, firstGoing n l = some i ∧ IsFirst n l i := by
  cases l with
  | nil => exact absurd rfl hne
  | cons x l =>
    rw [List.pairwise_cons] at hl
    obtain ⟨i, e1, e2, e3, e4⟩ := first_keep n l x hl.1 hl.2
    refine ⟨i, e1, ?_, ?_⟩
    · rcases e2 with rfl | e2
      · exact List.mem_cons_self
      · exact List.mem_cons_of_mem _ e2
    · intro y hy
      rcases List.mem_cons.mp hy with rfl | hy
      · rcases e3 with e3 | rfl
        · exact .inl e3
        · exact .inr ⟨rfl, Nat.le_refl _⟩
      · exact e4 y hy
theorem goodGo_rising (n : Net) (ws : List Nat) (p t a : Nat) : (goodGo n ws p t a).Pairwise (· < ·) := by
  unfold goodGo inTime
  exact (List.pairwise_lt_range.filter _).filter _
end SJ
end
section
set_option autoImplicit false
namespace SJ
open Vbtoad

/-! facts of what's sure -/
section
variable {n : Net} {d : Nat} {ws : List Nat} {p t : Nat}
theorem sureM_ne (h : p ≠ d) : sureM n d ws p t = (inTime n p t).foldl (fun b i => min b (wAt ws i)) (carsAlone n d p t) := if_neg h
theorem sureM_cars (h : p ≠ d) : sureM n d ws p t ≤ carsAlone n d p t := by
  rw [sureM_ne h]
  exact minfold_le _ _ _
theorem sureM_go (h : p ≠ d) {i : Nat} (hi : i ∈ inTime n p t) : sureM n d ws p t ≤ wAt ws i := by
  rw [sureM_ne h]
  exact minfold_le_at _ _ _ i hi
theorem sureM_is (h : p ≠ d) : sureM n d ws p t = carsAlone n d p t ∨ ∃ i ∈ inTime n p t, sureM n d ws p t = wAt ws i := by
  rw [sureM_ne h]
  exact minfold_is _ _ _
theorem carsAlone_never : carsAlone n d p t ≤ NEVER := Nat.min_le_left _ _
theorem sureM_never (h : p ≠ d) : sureM n d ws p t ≤ NEVER := Nat.le_trans (sureM_cars h) carsAlone_never
end
/-- from the end of a car nothing comes into reach that wasn't -/
theorem inTime_car {n : Net} (W : WF n) {c : Car} (hc : c ∈ n.cars) {t i : Nat} (h : i ∈ inTime n c.to_ (t + c.long + handlingAt n c.to_)) : i ∈ inTime n c.from_ t := by
  obtain ⟨g, eg, ht⟩ := mem_inTime.mp h
  refine mem_inTime.mpr ⟨g, eg, ?_⟩
  have := R_car W hc g.from_
  omega
theorem carsAlone_car {n : Net} (W : WF n) {c : Car} (hc : c ∈ n.cars) (d t : Nat) : carsAlone n d c.from_ t ≤ carsAlone n d c.to_ (t + c.long + handlingAt n c.to_) := by
  obtain ⟨w1, w2, w3, w4, w5⟩ := W.car c hc
  have h1 := D_tri (n := n) (p := c.from_) (q := d) (r := c.to_) w2
  have h2 := D_car hc
  unfold carsAlone
  omega
theorem sureM_car {n : Net} (W : WF n) {c : Car} (hc : c ∈ n.cars) {d t : Nat} {ws : List Nat} (h1 : c.from_ ≠ d) (h2 : c.to_ ≠ d) : sureM n d ws c.from_ t ≤ sureM n d ws c.to_ (t + c.long + handlingAt n c.to_) := by
  rcases sureM_is (n := n) (ws := ws) (t := t + c.long + handlingAt n c.to_) h2 with h | ⟨i, hi, h⟩
  · rw [h]
    exact Nat.le_trans (sureM_cars h1) (carsAlone_car W hc d t)
  · rw [h]
    exact sureM_go h1 (inTime_car W hc hi)

/-! a measure of what's left to do -/
def cnt (n : Net) (t : Nat) : Nat := n.goes.countP fun g => decide (t ≤ g.dep)
theorem cnt_mono {n : Net} {t u : Nat} (h : t ≤ u) : cnt n u ≤ cnt n t := by
  refine List.countP_mono_left fun g _ hg => ?_
  simp at hg ⊢
  omega
theorem cnt_lt {n : Net} {t u : Nat} {g : Go} (hg : g ∈ n.goes) (h1 : t ≤ g.dep) (h2 : g.dep < u) : cnt n u < cnt n t := by
  refine countP_lt _ (fun x _ hx => ?_) ⟨g, hg, by simpa using h1, by simpa using h2⟩
  simp at hx ⊢
  omega
theorem cnt_le {n : Net} (W : WF n) (t : Nat) : cnt n t ≤ 30 := Nat.le_trans List.countP_le_length W.ng
def mu (n : Net) (d : Nat) (ws : List Nat) (p t : Nat) : Nat :=
  if p = d then 0
  else if sureM n d ws p t = NEVER then 0
  else if carsAlone n d p t = sureM n d ws p t then 8 * cnt n t + rank n d p + 1
  else match firstGoing n (goodGo n ws p t (sureM n d ws p t)) with
    | none => 0
    | some i => match n.goes[i]? with
      | none => 0
      | some g => 8 * cnt n t + rank n g.from_ p + 1
theorem mu_le {n : Net} (W : WF n) {p : Nat} (hp : p < n.places.length) (d : Nat) (ws : List Nat) (t : Nat) : mu n d ws p t ≤ 8 * cnt n t + 8 := by
  have := W.np
  unfold mu
  split
  · omega
  · split
    · omega
    · split
      · have := rank_lt_len (n := n) (u := d) hp
        omega
      · split
        · omega
        · split
          · omega
          · next g _ =>
            have := rank_lt_len (n := n) (u := g.from_) hp
            omega
theorem mu_most {n : Net} (W : WF n) {p : Nat} (hp : p < n.places.length) (d : Nat) (ws : List Nat) (t : Nat) : mu n d ws p t ≤ 248 := by
  have := mu_le W hp d ws t
  have := cnt_le W t
  omega

theorem goodGoal_iff {n : Net} {d p : Nat} {x : Car} : goodGoal n d p x = true ↔ x.from_ = p ∧ thereM n d x.to_ x.long + D n x.to_ d = D n p d := by
  unfold goodGoal
  rw [Bool.and_eq_true, beq_iff_eq, beq_iff_eq]
theorem goodReady_iff {n : Net} {p u : Nat} {x : Car} : goodReady n p u x = true ↔ x.from_ = p ∧ x.long + handlingAt n x.to_ + R n x.to_ u = R n p u := by
  unfold goodReady
  rw [Bool.and_eq_true, beq_iff_eq, beq_iff_eq]

/-- by cars to the goal: nearer, and still by cars -/
theorem mu_goal {n : Net} (W : WF n) {d : Nat} {ws : List Nat} {p t : Nat} (hne : p ≠ d) (hs : sureM n d ws p t ≠ NEVER) (hc : carsAlone n d p t = sureM n d ws p t) {x : Car} (hx : x ∈ n.cars) (hg : goodGoal n d p x = true) :
    mu n d ws x.to_ (thereM n d x.to_ (t + x.long)) < mu n d ws p t := by
  obtain ⟨hf, hD⟩ := goodGoal_iff.mp hg
  obtain ⟨w1, w2, w3, w4, w5⟩ := W.car x hx
  have e0 : mu n d ws p t = 8 * cnt n t + rank n d p + 1 := by
    unfold mu
    rw [if_neg hne, if_neg hs, if_pos hc]
  rw [e0]
  by_cases ed : x.to_ = d
  · unfold mu
    rw [if_pos ed]
    omega
  · have et : thereM n d x.to_ (t + x.long) = t + x.long + handlingAt n x.to_ := if_neg ed
    have et2 : thereM n d x.to_ x.long = x.long + handlingAt n x.to_ := if_neg ed
    rw [et]
    rw [et2] at hD
    have nv : sureM n d ws p t < NEVER := Nat.lt_of_le_of_ne (sureM_never hne) hs
    have up : sureM n d ws p t ≤ sureM n d ws x.to_ (t + x.long + handlingAt n x.to_) := by
      have := sureM_car W hx (d := d) (t := t) (ws := ws) (by rw [hf]; exact hne) ed
      rw [hf] at this
      exact this
    have ca : carsAlone n d x.to_ (t + x.long + handlingAt n x.to_) = carsAlone n d p t := by
      unfold carsAlone
      congr 1
      omega
    have down := sureM_cars (n := n) (ws := ws) (t := t + x.long + handlingAt n x.to_) ed
    have es : sureM n d ws x.to_ (t + x.long + handlingAt n x.to_) = sureM n d ws p t := by omega
    have e1 : mu n d ws x.to_ (t + x.long + handlingAt n x.to_) = 8 * cnt n (t + x.long + handlingAt n x.to_) + rank n d x.to_ + 1 := by
      unfold mu
      rw [if_neg ed, if_neg (by omega), if_pos (by omega)]
    rw [e1]
    have c1 := cnt_mono (n := n) (t := t) (u := t + x.long + handlingAt n x.to_) (by omega)
    have c2 := rank_lt (n := n) (u := d) (p := p) w2 (by
      rw [R_ne hne, R_ne ed]
      omega)
    omega
/-- by a car towards a departure: nearer, and still towards it -/
theorem mu_ready {n : Net} (W : WF n) {d : Nat} {ws : List Nat} {p t : Nat} (hne : p ≠ d) (hs : sureM n d ws p t ≠ NEVER) (hc : carsAlone n d p t ≠ sureM n d ws p t) {i : Nat} {g : Go}
    (hi : firstGoing n (goodGo n ws p t (sureM n d ws p t)) = some i) (eg : n.goes[i]? = some g) {x : Car} (hx : x ∈ n.cars) (hg : goodReady n p g.from_ x = true) :
    mu n d ws x.to_ (thereM n d x.to_ (t + x.long)) < mu n d ws p t := by
  obtain ⟨hf, hR⟩ := goodReady_iff.mp hg
  obtain ⟨w1, w2, w3, w4, w5⟩ := W.car x hx
  have e0 : mu n d ws p t = 8 * cnt n t + rank n g.from_ p + 1 := by
    unfold mu
    rw [if_neg hne, if_neg hs, if_neg hc, hi]
    simp only [eg]
  rw [e0]
  by_cases ed : x.to_ = d
  · unfold mu
    rw [if_pos ed]
    omega
  · have et : thereM n d x.to_ (t + x.long) = t + x.long + handlingAt n x.to_ := if_neg ed
    rw [et]
    have nv : sureM n d ws p t < NEVER := Nat.lt_of_le_of_ne (sureM_never hne) hs
    have up : sureM n d ws p t ≤ sureM n d ws x.to_ (t + x.long + handlingAt n x.to_) := by
      have := sureM_car W hx (d := d) (t := t) (ws := ws) (by rw [hf]; exact hne) ed
      rw [hf] at this
      exact this
    have ca : carsAlone n d p t ≤ carsAlone n d x.to_ (t + x.long + handlingAt n x.to_) := by
      have := carsAlone_car W hx d t
      rw [hf] at this
      exact this
    have mem := firstGoing_mem n hi
    obtain ⟨m1, m2⟩ := List.mem_filter.mp mem
    have m2 : wAt ws i = sureM n d ws p t := by simpa using m2
    obtain ⟨g', eg', ht⟩ := mem_inTime.mp m1
    rw [eg] at eg'
    cases eg'
    have i2 : i ∈ inTime n x.to_ (t + x.long + handlingAt n x.to_) := mem_inTime.mpr ⟨g, eg, by omega⟩
    have down := sureM_go (n := n) (ws := ws) ed i2
    have es : sureM n d ws x.to_ (t + x.long + handlingAt n x.to_) = sureM n d ws p t := by omega
    have cs := sureM_cars (n := n) (ws := ws) (t := t) hne
    -- the departure stays the first
    have f1 : IsFirst n (goodGo n ws p t (sureM n d ws p t)) i := by
      obtain ⟨j, ej, hj⟩ := firstGoing_is (goodGo_rising n ws p t (sureM n d ws p t)) (List.ne_nil_of_mem mem)
      rw [hi] at ej
      cases ej
      exact hj
    have f2 : IsFirst n (goodGo n ws x.to_ (t + x.long + handlingAt n x.to_) (sureM n d ws p t)) i := by
      refine ⟨List.mem_filter.mpr ⟨i2, by simpa using m2⟩, fun y hy => f1.2 y ?_⟩
      obtain ⟨y1, y2⟩ := List.mem_filter.mp hy
      refine List.mem_filter.mpr ⟨?_, y2⟩
      have := inTime_car W hx y1
      rw [hf] at this
      exact this
    have ef : firstGoing n (goodGo n ws x.to_ (t + x.long + handlingAt n x.to_) (sureM n d ws p t)) = some i := by
      obtain ⟨j, ej, hj⟩ := firstGoing_is (goodGo_rising n ws x.to_ (t + x.long + handlingAt n x.to_) (sureM n d ws p t)) (List.ne_nil_of_mem f2.1)
      rw [ej, isFirst_unique hj f2]
    have e1 : mu n d ws x.to_ (t + x.long + handlingAt n x.to_) = 8 * cnt n (t + x.long + handlingAt n x.to_) + rank n g.from_ x.to_ + 1 := by
      unfold mu
      rw [if_neg ed, if_neg (by omega), if_neg (by omega), es, ef]
      simp only [eg]
    rw [e1]
    have c1 := cnt_mono (n := n) (t := t) (u := t + x.long + handlingAt n x.to_) (by omega)
    have c2 := rank_lt (n := n) (u := g.from_) (p := p) w2 (by omega)
    omega
/-- a departure waited for: one fewer is left -/
theorem mu_wait {n : Net} (W : WF n) {d : Nat} {ws us : List Nat} {p t : Nat} (hne : p ≠ d) (hs : sureM n d ws p t ≠ NEVER) (hc : carsAlone n d p t ≠ sureM n d ws p t) {i : Nat} {g : Go}
    (hi : firstGoing n (goodGo n ws p t (sureM n d ws p t)) = some i) (eg : n.goes[i]? = some g) {q u : Nat} (hq : q < n.places.length) (hu : g.dep < u) : mu n d us q u < mu n d ws p t := by
  have e0 : mu n d ws p t = 8 * cnt n t + rank n g.from_ p + 1 := by
    unfold mu
    rw [if_neg hne, if_neg hs, if_neg hc, hi]
    simp only [eg]
  rw [e0]
  have mem := (List.mem_filter.mp (firstGoing_mem n hi)).1
  obtain ⟨g', eg', ht⟩ := mem_inTime.mp mem
  rw [eg] at eg'
  cases eg'
  have := cnt_lt (n := n) (t := t) (u := u) (List.mem_of_getElem? eg) (by omega) hu
  have := mu_le W hq d us u
  omega

/-! what's to be done is there; one step of a journey -/
theorem toDoM_some {n : Net} (W : WF n) {d : Nat} {ws : List Nat} {p t : Nat} (hp : p < n.places.length) (hne : p ≠ d) (hs : sureM n d ws p t ≠ NEVER) :
    (carsAlone n d p t = sureM n d ws p t ∧ ∃ c x, firstCar n (goodGoal n d p) = some c ∧ n.cars[c]? = some x ∧ goodGoal n d p x = true ∧ toDoM n d ws p t = some (.drive c)) ∨
    (carsAlone n d p t ≠ sureM n d ws p t ∧ ∃ i g, firstGoing n (goodGo n ws p t (sureM n d ws p t)) = some i ∧ n.goes[i]? = some g ∧ t + R n p g.from_ ≤ g.dep ∧
      ((g.from_ = p ∧ toDoM n d ws p t = some (.wait i)) ∨ (g.from_ ≠ p ∧ ∃ c x, firstCar n (goodReady n p g.from_) = some c ∧ n.cars[c]? = some x ∧ goodReady n p g.from_ x = true ∧ toDoM n d ws p t = some (.drive c)))) := by
  have nv : sureM n d ws p t < NEVER := Nat.lt_of_le_of_ne (sureM_never hne) hs
  have hN : NEVER = 1000000000 := rfl
  by_cases hc : carsAlone n d p t = sureM n d ws p t
  · refine .inl ⟨hc, ?_⟩
    obtain ⟨c, x, h1, h2, h3⟩ := goal_car W hne (p := p) (d := d) (by
      unfold carsAlone at hc
      omega)
    refine ⟨c, x, h1, h2, h3, ?_⟩
    unfold toDoM
    rw [if_neg hne, if_neg hs, if_pos hc, h1]
    rfl
  · refine .inr ⟨hc, ?_⟩
    obtain ⟨j, hj, ej⟩ : ∃ i ∈ inTime n p t, sureM n d ws p t = wAt ws i := by
      rcases sureM_is (n := n) (d := d) (ws := ws) (t := t) hne with h | h
      · exact absurd h.symm hc
      · exact h
    have hjm : j ∈ goodGo n ws p t (sureM n d ws p t) := List.mem_filter.mpr ⟨hj, by simpa using ej.symm⟩
    obtain ⟨i, ei, hi⟩ := firstGoing_is (n := n) (goodGo_rising n ws p t (sureM n d ws p t)) (List.ne_nil_of_mem hjm)
    obtain ⟨g, eg, ht⟩ := mem_inTime.mp (List.mem_filter.mp hi.1).1
    have wg := W.go g (List.mem_of_getElem? eg)
    refine ⟨i, g, ei, eg, ht, ?_⟩
    have eT : toDoM n d ws p t = if g.from_ = p then some (.wait i) else (firstCar n (goodReady n p g.from_)).map .drive := by
      unfold toDoM
      rw [if_neg hne, if_neg hs, if_neg hc, ei]
      simp only [eg]
    by_cases ep : g.from_ = p
    · refine .inl ⟨ep, ?_⟩
      rw [eT, if_pos ep]
    · refine .inr ⟨ep, ?_⟩
      obtain ⟨c, x, h1, h2, h3⟩ := ready_car W hp (Ne.symm ep) (by omega)
      refine ⟨c, x, h1, h2, h3, ?_⟩
      rw [eT, if_neg ep, h1]
      rfl

structure At where
  k : Nat
  p : Nat
  t : Nat
/-- one step: where it leads, what is told of it -/
def stepM (n : Net) (d : Nat) (out : List Nat) (s : At) : Option (At × Step) := match toDoM n d (worthsM n d s.k) s.p s.t with
  | some (.drive c) => (match n.cars[c]? with
    | some x => some (⟨s.k, x.to_, thereM n d x.to_ (s.t + x.long)⟩, ⟨1, c, s.t⟩)
    | none => none)
  | some (.wait i) => (match n.goes[i]? with
    | some g => if out.contains i = true then some (⟨s.k - 1, s.p, g.dep + 1⟩, ⟨3, i, g.dep⟩) else some (⟨s.k, g.to_, thereM n d g.to_ g.arr⟩, ⟨2, i, g.dep⟩)
    | none => none)
  | _ => none
theorem play_goal (n : Net) (d : Nat) (out : List Nat) (f k t : Nat) : play n (roadsOf n) d out (f + 1) k d t = ([], some t) := by
  have e : toDo n (roadsOf n) d k d t = some .there := by
    unfold toDo
    rw [if_pos rfl]
  unfold play
  rw [e]
theorem play_step {n : Net} (W : WF n) (d : Nat) (out : List Nat) (f : Nat) (s : At) (hp : s.p < n.places.length) (ht : s.t ≤ 100000000) : play n (roadsOf n) d out (f + 2) s.k s.p s.t = match stepM n d out s with
    | none => ([], if s.p = d then some s.t else none)
    | some (a, x) => (x :: (play n (roadsOf n) d out (f + 1) a.k a.p a.t).1, (play n (roadsOf n) d out (f + 1) a.k a.p a.t).2) := by
  have e := toDo_is W d s.k hp ht
  by_cases ep : s.p = d
  · have e1 : stepM n d out s = none := by
      unfold stepM toDoM
      rw [if_pos ep]
    rw [e1]
    show _ = ([], if s.p = d then some s.t else none)
    rw [if_pos ep, ep]
    exact play_goal n d out (f + 1) s.k s.t
  · by_cases hs : sureM n d (worthsM n d s.k) s.p s.t = NEVER
    · have e2 : toDoM n d (worthsM n d s.k) s.p s.t = none := by
        unfold toDoM
        rw [if_neg ep, if_pos hs]
      have e1 : stepM n d out s = none := by
        unfold stepM
        rw [e2]
      rw [e1]
      show _ = ([], if s.p = d then some s.t else none)
      rw [if_neg ep]
      rw [e2] at e
      unfold play
      rw [e]
    · have drive : ∀ c x, toDoM n d (worthsM n d s.k) s.p s.t = some (.drive c) → n.cars[c]? = some x → play n (roadsOf n) d out (f + 2) s.k s.p s.t = match stepM n d out s with
          | none => ([], if s.p = d then some s.t else none)
          | some (a, x) => (x :: (play n (roadsOf n) d out (f + 1) a.k a.p a.t).1, (play n (roadsOf n) d out (f + 1) a.k a.p a.t).2) := by
        intro c x e2 ex
        have e1 : stepM n d out s = some (⟨s.k, x.to_, thereM n d x.to_ (s.t + x.long)⟩, ⟨1, c, s.t⟩) := by
          unfold stepM
          rw [e2]
          simp only [ex]
        rw [e1]
        rw [e2] at e
        conv => lhs; unfold play
        rw [e]
        simp only [ex]
        by_cases ed : x.to_ = d
        · rw [if_pos ed]
          unfold thereM
          rw [if_pos ed, ed, play_goal]
        · rw [if_neg ed]
          unfold thereM
          rw [if_neg ed]
      have wait : ∀ i g, toDoM n d (worthsM n d s.k) s.p s.t = some (.wait i) → n.goes[i]? = some g → play n (roadsOf n) d out (f + 2) s.k s.p s.t = match stepM n d out s with
          | none => ([], if s.p = d then some s.t else none)
          | some (a, x) => (x :: (play n (roadsOf n) d out (f + 1) a.k a.p a.t).1, (play n (roadsOf n) d out (f + 1) a.k a.p a.t).2) := by
        intro i g e2 eg
        rw [e2] at e
        by_cases ho : out.contains i = true
        · have e1 : stepM n d out s = some (⟨s.k - 1, s.p, g.dep + 1⟩, ⟨3, i, g.dep⟩) := by
            unfold stepM
            rw [e2]
            simp only [eg]
            rw [if_pos ho]
          rw [e1]
          conv => lhs; unfold play
          rw [e]
          simp only [eg]
          rw [if_pos ho]
        · have e1 : stepM n d out s = some (⟨s.k, g.to_, thereM n d g.to_ g.arr⟩, ⟨2, i, g.dep⟩) := by
            unfold stepM
            rw [e2]
            simp only [eg]
            rw [if_neg ho]
          rw [e1]
          conv => lhs; unfold play
          rw [e]
          simp only [eg]
          rw [if_neg ho]
          by_cases ed : g.to_ = d
          · rw [if_pos ed]
            unfold thereM
            rw [if_pos ed, ed, play_goal]
          · rw [if_neg ed]
            unfold thereM
            rw [if_neg ed]
      rcases toDoM_some W hp ep hs with ⟨_, c, x, _, ex, _, e2⟩ | ⟨_, i, g, _, eg, _, ⟨_, e2⟩ | ⟨_, c, x, _, ex, _, e2⟩⟩
      · exact drive c x e2 ex
      · exact wait i g e2 eg
      · exact drive c x e2 ex
theorem step_mu {n : Net} (W : WF n) {d : Nat} {out : List Nat} {s a : At} {x : Step} (hp : s.p < n.places.length) (h : stepM n d out s = some (a, x)) :
    mu n d (worthsM n d a.k) a.p a.t < mu n d (worthsM n d s.k) s.p s.t ∧ a.p < n.places.length ∧ (a.t ≤ s.t + 11000 ∨ a.t ≤ 101000) ∧ s.p ≠ d ∧ sureM n d (worthsM n d s.k) s.p s.t ≠ NEVER ∧ a.k ≤ s.k := by
  by_cases ep : s.p = d
  · unfold stepM toDoM at h
    rw [if_pos ep] at h
    cases h
  · by_cases hs : sureM n d (worthsM n d s.k) s.p s.t = NEVER
    · unfold stepM toDoM at h
      rw [if_neg ep, if_pos hs] at h
      cases h
    · have far : ∀ y ∈ n.cars, thereM n d y.to_ (s.t + y.long) ≤ s.t + 11000 := by
        intro y hy
        have := W.hand y.to_
        obtain ⟨w1, w2, w3, w4, w5⟩ := W.car y hy
        unfold thereM
        split <;> omega
      rcases toDoM_some W hp ep hs with ⟨hc, c, y, _, ey, hg, e2⟩ | ⟨hc, i, g, ei, eg, ht, hh⟩
      · have hy := List.mem_of_getElem? ey
        unfold stepM at h
        rw [e2] at h
        simp only [ey] at h
        cases h
        exact ⟨mu_goal W ep hs hc hy hg, (W.car y hy).2.1, .inl (far y hy), ep, hs, Nat.le_refl _⟩
      · rcases hh with ⟨_, e2⟩ | ⟨_, c, y, _, ey, hg, e2⟩
        · obtain ⟨w1, w2, w3, w4, w5⟩ := W.go g (List.mem_of_getElem? eg)
          unfold stepM at h
          rw [e2] at h
          simp only [eg] at h
          by_cases ho : out.contains i = true
          · rw [if_pos ho] at h
            cases h
            refine ⟨mu_wait W ep hs hc ei eg hp (Nat.lt_succ_self _), hp, .inr ?_, ep, hs, Nat.sub_le _ _⟩
            show g.dep + 1 ≤ 101000
            omega
          · rw [if_neg ho] at h
            cases h
            have hh := W.hand g.to_
            have lo : g.arr ≤ thereM n d g.to_ g.arr ∧ thereM n d g.to_ g.arr ≤ g.arr + 1000 := by
              unfold thereM
              split <;> omega
            refine ⟨mu_wait W ep hs hc ei eg w2 ?_, w2, .inr ?_, ep, hs, Nat.le_refl _⟩
            · show g.dep < thereM n d g.to_ g.arr
              omega
            · show thereM n d g.to_ g.arr ≤ 101000
              omega
        · have hy := List.mem_of_getElem? ey
          unfold stepM at h
          rw [e2] at h
          simp only [ey] at h
          cases h
          exact ⟨mu_ready W ep hs hc ei eg hy hg, (W.car y hy).2.1, .inl (far y hy), ep, hs, Nat.le_refl _⟩
end SJ
end
section
set_option autoImplicit false
namespace SJ
open Vbbtaa (Text Word Fault Rest cutAt wordsBy restOf placeOf)
open Vbtoad

/-! ## lines and words by their ends -/
def slice (t : List Nat) (b e : Nat) : List Nat := (t.drop b).take (e - b)
/-- from the place p on, the line having begun at b: the lines' ends -/
def linesFrom (t : List Nat) : Nat → Nat → Nat → List (Nat × Nat)
  | 0, _, _ => []
  | f + 1, b, p => if p = t.length ∨ t[p]? = some 10 then (b, p) :: linesFrom t f (p + 1) (p + 1) else linesFrom t f b (p + 1)
def linesM (t : List Nat) : List (Nat × Nat) := linesFrom t (t.length + 1) 0 0
/-- from the place p on, the word having begun at b, the line's end at e: the words' ends -/
def wordsFrom (t : List Nat) (e : Nat) : Nat → Nat → Nat → List (Nat × Nat)
  | 0, _, _ => []
  | f + 1, b, p => if p = e ∨ t[p]? = some 32 then (if b < p then (b, p) :: wordsFrom t e f (p + 1) (p + 1) else wordsFrom t e f (p + 1) (p + 1)) else wordsFrom t e f b (p + 1)
def wordsM (t : List Nat) (b e : Nat) : List (Nat × Nat) := wordsFrom t e (e + 1 - b) b b
def wordOf (t : List Nat) (s : Nat × Nat) : Word := ⟨s.1, slice t s.1 s.2⟩
def restM (t : List Nat) (s : Nat × Nat) : Rest := ⟨(wordsM t s.1 s.2).map (wordOf t), s.2⟩

theorem slice_self (t : List Nat) (b : Nat) : slice t b b = [] := by
  unfold slice
  rw [Nat.sub_self, List.take_zero]
theorem slice_snoc {t : List Nat} {b p c : Nat} (hb : b ≤ p) (h : t[p]? = some c) : slice t b (p + 1) = slice t b p ++ [c] := by
  unfold slice
  have e : p + 1 - b = (p - b) + 1 := by omega
  rw [e, List.take_add_one]
  congr 1
  rw [List.getElem?_drop]
  have : b + (p - b) = p := by omega
  rw [this, h]
  rfl
theorem slice_len {t : List Nat} {b p : Nat} (hb : b ≤ p) (hp : p ≤ t.length) : (slice t b p).length = p - b := by
  unfold slice
  rw [List.length_take, List.length_drop]
  omega
theorem slice_rest {t : List Nat} {b p : Nat} (hb : b ≤ p) : t.drop b = slice t b p ++ t.drop p := by
  unfold slice
  have e : t.drop p = (t.drop b).drop (p - b) := by
    rw [List.drop_drop]
    congr 1
    omega
  rw [e, List.take_append_drop]

theorem cutAt_end (sep : Nat) : ∀ (u : List Nat) (p : Nat), sep ∉ u → cutAt sep p u = [(p, u)]
  | [], p, _ => rfl
  | c :: u, p, h => by
    have hc : c ≠ sep := fun e => h (e ▸ List.mem_cons_self)
    have hu : sep ∉ u := fun e => h (List.mem_cons_of_mem _ e)
    unfold cutAt
    rw [if_neg hc, cutAt_end sep u (p + 1) hu]
theorem cutAt_at (sep : Nat) : ∀ (u v : List Nat) (p : Nat), sep ∉ u → cutAt sep p (u ++ sep :: v) = (p, u) :: cutAt sep (p + u.length + 1) v
  | [], v, p, _ => by
    show cutAt sep p (sep :: v) = _
    conv => lhs; unfold cutAt
    rw [if_pos rfl]
    rfl
  | c :: u, v, p, h => by
    have hc : c ≠ sep := fun e => h (e ▸ List.mem_cons_self)
    have hu : sep ∉ u := fun e => h (List.mem_cons_of_mem _ e)
    show cutAt sep p (c :: (u ++ sep :: v)) = _
    conv => lhs; unfold cutAt
    rw [if_neg hc, cutAt_at sep u v (p + 1) hu]
    have e : p + 1 + u.length + 1 = p + (c :: u).length + 1 := by
      rw [List.length_cons]
      omega
    rw [e]
theorem lines_is (t : List Nat) : ∀ (f b p : Nat), b ≤ p → p + f = t.length + 1 → 10 ∉ slice t b p → (p ≤ t.length ∨ b = p) → (linesFrom t f b p).map (fun s => (s.1, slice t s.1 s.2)) = if p ≤ t.length then cutAt 10 b (t.drop b) else []
  | 0, b, p, hb, hf, hn, _ => by
    rw [if_neg (by omega)]
    rfl
  | f + 1, b, p, hb, hf, hn, _ => by
    have hp : p ≤ t.length := by omega
    rw [if_pos hp]
    unfold linesFrom
    by_cases c : p = t.length ∨ t[p]? = some 10
    · rw [if_pos c, List.map_cons, lines_is t f (p + 1) (p + 1) (Nat.le_refl _) (by omega) (by rw [slice_self]; exact List.not_mem_nil) (.inr rfl)]
      by_cases e : p = t.length
      · rw [if_neg (by omega), slice_rest hb, List.drop_eq_nil_of_le (by omega : t.length ≤ p), List.append_nil, cutAt_end 10 _ b hn]
      · have h10 : t[p]? = some 10 := by
          rcases c with c | c
          · exact absurd c e
          · exact c
        rw [if_pos (by omega)]
        have hd : t.drop p = 10 :: t.drop (p + 1) := by
          rw [List.drop_eq_getElem_cons (by omega : p < t.length)]
          have := List.getElem?_eq_some_iff.mp h10
          rw [this.2]
        rw [slice_rest hb, hd, cutAt_at 10 _ _ b hn, slice_len hb hp]
        have e2 : b + (p - b) + 1 = p + 1 := by omega
        rw [e2]
    · rw [if_neg c]
      have hlt : p < t.length := by
        have : p ≠ t.length := fun e => c (.inl e)
        omega
      have hg : t[p]? = some t[p] := List.getElem?_eq_getElem hlt
      rw [lines_is t f b (p + 1) (by omega) (by omega) ?_ (.inl hlt), if_pos (show p + 1 ≤ t.length from hlt)]
      rw [slice_snoc hb hg, List.mem_append]
      rintro (h | h)
      · exact hn h
      · have : t[p] = 10 := (List.mem_singleton.mp h).symm
        rw [this] at hg
        exact c (.inr hg)
theorem linesM_is (t : List Nat) : (linesM t).map (fun s => (s.1, slice t s.1 s.2)) = cutAt 10 0 t := by
  unfold linesM
  rw [lines_is t _ 0 0 (Nat.le_refl _) (by omega) (by rw [slice_self]; exact List.not_mem_nil) (.inr rfl), if_pos (Nat.zero_le _)]
  rfl

/-! words: no sign is a word by itself here -/
theorem words_skip (p : Nat) (r : List Nat) : wordsBy plainSign p (32 :: r) = wordsBy plainSign (p + 1) r := by
  conv => lhs; unfold wordsBy
  rw [if_pos rfl]
theorem words_end : ∀ (u : List Nat) (p : Nat), u ≠ [] → 32 ∉ u → wordsBy plainSign p u = [⟨p, u⟩]
  | [], _, h, _ => absurd rfl h
  | c :: u, p, _, h => by
    have hc : c ≠ 32 := fun e => h (e ▸ List.mem_cons_self)
    have hu : 32 ∉ u := fun e => h (List.mem_cons_of_mem _ e)
    have hs : ¬ plainSign c = true := Bool.false_ne_true
    cases u with
    | nil =>
      unfold wordsBy
      rw [if_neg hc, if_neg hs]
    | cons d u =>
      have hd : d ≠ 32 := fun e => hu (e ▸ List.mem_cons_self)
      unfold wordsBy
      rw [if_neg hc, if_neg hs]
      show (if d = 32 ∨ plainSign d = true then _ else _) = _
      rw [if_neg (by rintro (z | z); exact hd z; exact Bool.false_ne_true z), words_end (d :: u) (p + 1) (List.cons_ne_nil _ _) hu]
theorem words_at : ∀ (u v : List Nat) (p : Nat), u ≠ [] → 32 ∉ u → wordsBy plainSign p (u ++ 32 :: v) = ⟨p, u⟩ :: wordsBy plainSign (p + u.length + 1) v
  | [], _, _, h, _ => absurd rfl h
  | c :: u, v, p, _, h => by
    have hc : c ≠ 32 := fun e => h (e ▸ List.mem_cons_self)
    have hu : 32 ∉ u := fun e => h (List.mem_cons_of_mem _ e)
    have hs : ¬ plainSign c = true := Bool.false_ne_true
    cases u with
    | nil =>
      show wordsBy plainSign p (c :: 32 :: v) = _
      conv => lhs; unfold wordsBy
      rw [if_neg hc, if_neg hs]
      show (if 32 = 32 ∨ plainSign 32 = true then _ else _) = _
      rw [if_pos (.inl rfl), words_skip]
      rfl
    | cons d u =>
      have hd : d ≠ 32 := fun e => hu (e ▸ List.mem_cons_self)
      show wordsBy plainSign p (c :: d :: (u ++ 32 :: v)) = _
      conv => lhs; unfold wordsBy
      rw [if_neg hc, if_neg hs]
      show (if d = 32 ∨ plainSign d = true then _ else _) = _
      have ih := words_at (d :: u) v (p + 1) (List.cons_ne_nil _ _) hu
      have ih : wordsBy plainSign (p + 1) (d :: (u ++ 32 :: v)) = _ := ih
      rw [if_neg (by rintro (z | z); exact hd z; exact Bool.false_ne_true z), ih]
      have e : p + 1 + (d :: u).length + 1 = p + (c :: d :: u).length + 1 := by
        simp only [List.length_cons]
        omega
      rw [e]
theorem words_is (t : List Nat) (e : Nat) (he : e ≤ t.length) : ∀ (f b p : Nat), b ≤ p → p + f = e + 1 → 32 ∉ slice t b p → (p ≤ e ∨ b = p) → (wordsFrom t e f b p).map (wordOf t) = if p ≤ e then wordsBy plainSign b (slice t b e) else []
  | 0, b, p, hb, hf, hn, _ => by
    rw [if_neg (by omega)]
    rfl
  | f + 1, b, p, hb, hf, hn, _ => by
    have hp : p ≤ e := by omega
    have step := words_is t e he f (p + 1) (p + 1) (Nat.le_refl _) (by omega) (by rw [slice_self]; exact List.not_mem_nil) (.inr rfl)
    rw [if_pos hp]
    unfold wordsFrom
    by_cases c : p = e ∨ t[p]? = some 32
    · rw [if_pos c]
      by_cases ee : p = e
      · subst ee
        rw [if_neg (by omega)] at step
        by_cases hbp : b < p
        · rw [if_pos hbp, List.map_cons, step]
          have ne : slice t b p ≠ [] := by
            intro z
            have := slice_len hb he
            rw [z] at this
            have : 0 = p - b := this
            omega
          rw [words_end _ b ne hn]
          rfl
        · rw [if_neg hbp, step]
          have : b = p := by omega
          rw [this, slice_self]
          rfl
      · have h32 : t[p]? = some 32 := by
          rcases c with c | c
          · exact absurd c ee
          · exact c
        have hlt : p < t.length := by omega
        have split : slice t b e = slice t b p ++ 32 :: slice t (p + 1) e := by
          have e1 : slice t b e = (slice t b p ++ t.drop p).take (e - b) := by
            rw [← slice_rest hb]
            rfl
          have hd : t.drop p = 32 :: t.drop (p + 1) := by
            rw [List.drop_eq_getElem_cons hlt]
            have := List.getElem?_eq_some_iff.mp h32
            rw [this.2]
          rw [e1, hd, List.take_append, slice_len hb (by omega)]
          have z1 : (slice t b p).take (e - b) = slice t b p := List.take_of_length_le (by rw [slice_len hb (by omega)]; omega)
          have z2 : e - b - (p - b) = (e - (p + 1)) + 1 := by omega
          rw [z1, z2, List.take_succ_cons]
          rfl
        rw [if_pos (by omega)] at step
        rw [split]
        by_cases hbp : b < p
        · rw [if_pos hbp, List.map_cons, step]
          have ne : slice t b p ≠ [] := by
            intro z
            have := slice_len hb (show p ≤ t.length by omega)
            rw [z] at this
            have : 0 = p - b := this
            omega
          rw [words_at _ _ b ne hn, slice_len hb (by omega)]
          have z : b + (p - b) + 1 = p + 1 := by omega
          rw [z]
          rfl
        · have z : b = p := by omega
          rw [if_neg hbp, step, z, slice_self]
          show _ = wordsBy plainSign p (32 :: slice t (p + 1) e)
          rw [words_skip]
    · rw [if_neg c]
      have hlt : p < e := by
        have : p ≠ e := fun z => c (.inl z)
        omega
      have hg : t[p]? = some t[p] := List.getElem?_eq_getElem (by omega)
      rw [words_is t e he f b (p + 1) (by omega) (by omega) ?_ (.inl hlt), if_pos (show p + 1 ≤ e from hlt)]
      rw [slice_snoc hb hg, List.mem_append]
      rintro (h | h)
      · exact hn h
      · have : t[p] = 32 := (List.mem_singleton.mp h).symm
        rw [this] at hg
        exact c (.inr hg)
theorem wordsM_is {t : List Nat} {b e : Nat} (hb : b ≤ e) (he : e ≤ t.length) : (wordsM t b e).map (wordOf t) = wordsBy plainSign b (slice t b e) := by
  unfold wordsM
  rw [words_is t e he _ b b (Nat.le_refl _) (by omega) (by rw [slice_self]; exact List.not_mem_nil) (.inr rfl), if_pos hb]
theorem lines_in (t : List Nat) : ∀ (f b p : Nat), b ≤ p → p + f = t.length + 1 → ∀ s ∈ linesFrom t f b p, s.1 ≤ s.2 ∧ s.2 ≤ t.length
  | 0, _, _, _, _, s, h => absurd h List.not_mem_nil
  | f + 1, b, p, hb, hf, s, h => by
    unfold linesFrom at h
    split at h
    · rcases List.mem_cons.mp h with rfl | h
      · exact ⟨hb, by show p ≤ t.length; omega⟩
      · exact lines_in t f (p + 1) (p + 1) (Nat.le_refl _) (by omega) s h
    · exact lines_in t f b (p + 1) (by omega) (by omega) s h
theorem linesM_in {t : List Nat} {s : Nat × Nat} (h : s ∈ linesM t) : s.1 ≤ s.2 ∧ s.2 ≤ t.length := lines_in t _ 0 0 (Nat.le_refl _) (by omega) s h
theorem restM_is {t : List Nat} {s : Nat × Nat} (h : s ∈ linesM t) : restM t s = restOf plainSign s.1 (slice t s.1 s.2) := by
  obtain ⟨h1, h2⟩ := linesM_in h
  unfold restM restOf
  rw [wordsM_is h1 h2, slice_len h1 h2]
  congr 1
  omega

/-- the lines read, one after another -/
def readAll (t : List Nat) : Net → List (Nat × Nat) → Except Fault Net
  | n, [] => .ok n
  | n, s :: l => if (restM t s).words.isEmpty = true then readAll t n l else match lineIn n (restM t s) with
    | .error e => .error e
    | .ok m => readAll t m l
theorem readAll_is (t : List Nat) : ∀ (l : List (Nat × Nat)) (n : Net), (∀ s ∈ l, s ∈ linesM t) → readAll t n l = Vbbtaa.readLines plainSign lineIn n (l.map fun s => (s.1, slice t s.1 s.2))
  | [], _, _ => rfl
  | s :: l, n, h => by
    have e := restM_is (h s List.mem_cons_self)
    have ew : (restM t s).words = wordsBy plainSign s.1 (slice t s.1 s.2) := by rw [e]; rfl
    have hl : ∀ x ∈ l, x ∈ linesM t := fun x hx => h x (List.mem_cons_of_mem _ hx)
    unfold readAll
    rw [List.map_cons]
    unfold Vbbtaa.readLines
    rw [ew, e, readAll_is t l n hl]
    split
    · rfl
    · cases lineIn n (restOf plainSign s.1 (slice t s.1 s.2)) with
      | error _ => rfl
      | ok m => exact readAll_is t l m hl
/-- **A text read, line by line.** -/
theorem readNet_is (n : Net) (t : List Nat) : readNet n t = readAll t n (linesM t) := by
  unfold readNet Vbbtaa.readText
  rw [readAll_is t _ n (fun _ h => h), linesM_is]

/-! ## words that may stand -/
theorem isName_iff (w : List Nat) : Vbbtaa.isName w = if w.length = 0 ∨ 12 < w.length ∨ (w.head?.any Vbbtaa.isSmall) = false then false else w.all fun c => Vbbtaa.isSmall c || Vbbtaa.isDigit c := by
  cases w with
  | nil => rfl
  | cons c r =>
    show (Vbbtaa.isSmall c && (decide (r.length ≤ 11) && r.all fun d => Vbbtaa.isSmall d || Vbbtaa.isDigit d)) = if r.length + 1 = 0 ∨ 12 < r.length + 1 ∨ Vbbtaa.isSmall c = false then false else (c :: r).all fun c => Vbbtaa.isSmall c || Vbbtaa.isDigit c
    by_cases h : r.length + 1 = 0 ∨ 12 < r.length + 1 ∨ Vbbtaa.isSmall c = false
    · rw [if_pos h]
      rcases h with h | h | h
      · omega
      · rw [decide_eq_false (by omega), Bool.false_and, Bool.and_false]
      · rw [h, Bool.false_and]
    · rw [if_neg h]
      have h1 : Vbbtaa.isSmall c = true := by
        cases e : Vbbtaa.isSmall c with
        | true => rfl
        | false => exact absurd (.inr (.inr e)) h
      have h2 : r.length ≤ 11 := by
        apply Nat.le_of_not_lt
        intro z
        exact h (.inr (.inl (by omega)))
      rw [h1, decide_eq_true h2, Bool.true_and, Bool.true_and, List.all_cons, h1, Bool.true_or, Bool.true_and]
theorem natOf_iff (w : List Nat) : Vbbtaa.natOf 6 w = if w.length = 0 ∨ 6 < w.length then none else if 1 < w.length ∧ w.head? = some 48 then none else if w.all Vbbtaa.isDigit = true then some (Vbbtaa.valueOf w) else none := by
  unfold Vbbtaa.natOf
  have e0 : w.isEmpty = true ↔ w.length = 0 := by
    cases w <;> simp
  by_cases h1 : w.length = 0 ∨ 6 < w.length
  · rw [if_pos h1, if_pos]
    rcases h1 with h | h
    · exact .inl (e0.mpr h)
    · exact .inr (.inl h)
  · rw [if_neg h1]
    by_cases h2 : 1 < w.length ∧ w.head? = some 48
    · rw [if_pos h2, if_pos (.inr (.inr (.inr h2)))]
    · rw [if_neg h2]
      by_cases h3 : w.all Vbbtaa.isDigit = true
      · rw [if_pos h3, if_neg]
        rintro (h | h | h | h)
        · exact h1 (.inl (e0.mp h))
        · exact h1 (.inr h)
        · rw [h3] at h
          cases h
        · exact h2 h
      · rw [if_neg h3, if_pos (.inr (.inr (.inl (by simpa using h3))))]
/-- a line written: blanks ahead of all but the first word -/
def lineM (ws : List (List Nat)) : List Nat := ws.foldl (fun l w => (if 0 < l.length then l ++ [32] else l) ++ w) []
theorem lineM_acc : ∀ (ws : List (List Nat)) (a : List Nat), a ≠ [] → ws.foldl (fun l w => (if 0 < l.length then l ++ [32] else l) ++ w) a = Vbbtaa.spaced (a :: ws)
  | [], a, _ => rfl
  | w :: ws, a, h => by
    have ha : 0 < a.length := List.length_pos_iff.mpr h
    rw [List.foldl_cons, if_pos ha, lineM_acc ws _ (by simp)]
    show Vbbtaa.spaced ((a ++ [32] ++ w) :: ws) = a ++ (32 :: Vbbtaa.spaced (w :: ws))
    cases ws with
    | nil =>
      show a ++ [32] ++ w = a ++ (32 :: w)
      simp
    | cons x ws =>
      show a ++ [32] ++ w ++ (32 :: Vbbtaa.spaced (x :: ws)) = a ++ (32 :: (w ++ (32 :: Vbbtaa.spaced (x :: ws))))
      simp
theorem lineM_is {w : List Nat} {ws : List (List Nat)} (h : w ≠ []) : lineM (w :: ws) = Vbbtaa.spaced (w :: ws) := by
  unfold lineM
  rw [List.foldl_cons]
  exact lineM_acc ws w h
end SJ
end
section
set_option autoImplicit false
namespace SJ
open Vbtoad
/-! departures, the last ones first: the stable order -/
def Ahead (n : Net) (a b : Nat) : Prop := depAt n b < depAt n a ∨ (depAt n a = depAt n b ∧ a < b)
theorem putLater_ahead (n : Net) (i : Nat) : ∀ l : List Nat, (∀ x ∈ l, x < i) → l.Pairwise (Ahead n) → (putLater n i l).Pairwise (Ahead n)
  | [], _, _ => by
    show [i].Pairwise _
    exact List.pairwise_singleton _ _
  | j :: l, hl, h => by
    rw [List.pairwise_cons] at h
    have hj := hl j List.mem_cons_self
    unfold putLater
    by_cases c : ((n.goes[j]?).map fun g => g.dep).getD 0 < ((n.goes[i]?).map fun g => g.dep).getD 0
    · rw [if_pos c]
      have c' : depAt n j < depAt n i := c
      refine List.pairwise_cons.mpr ⟨fun x hx => ?_, List.pairwise_cons.mpr h⟩
      rcases List.mem_cons.mp hx with rfl | hx
      · exact .inl c'
      · rcases h.1 x hx with z | ⟨z, _⟩
        · exact .inl (by omega)
        · exact .inl (by omega)
    · rw [if_neg c]
      have c' : ¬ depAt n j < depAt n i := c
      refine List.pairwise_cons.mpr ⟨fun x hx => ?_, putLater_ahead n i l (fun x hx => hl x (List.mem_cons_of_mem _ hx)) h.2⟩
      rcases List.mem_cons.mp ((putLater_perm n i l).mem_iff.mp hx) with rfl | hx
      · unfold Ahead
        omega
      · exact h.1 x hx
theorem lastFirst_ahead (n : Net) : (lastFirst n).Pairwise (Ahead n) := by
  have gen : ∀ m : Nat, ((List.range m).foldl (fun l i => putLater n i l) []).Pairwise (Ahead n) ∧ ∀ x ∈ (List.range m).foldl (fun l i => putLater n i l) [], x < m := by
    intro m
    induction m with
    | zero => exact ⟨List.Pairwise.nil, fun x hx => absurd hx List.not_mem_nil⟩
    | succ m ih =>
      rw [List.range_succ, List.foldl_append]
      refine ⟨putLater_ahead n m _ ih.2 ih.1, fun x hx => ?_⟩
      rcases List.mem_cons.mp ((putLater_perm n m _).mem_iff.mp hx) with rfl | hx
      · exact Nat.lt_succ_self _
      · exact Nat.lt_succ_of_lt (ih.2 x hx)
  exact (gen _).1
theorem no_turn {a b : Nat} : ∀ l : List Nat, l.Nodup → List.Sublist [a, b] l → List.Sublist [b, a] l → False
  | [], _, h, _ => by cases h
  | x :: l, nd, h, g => by
    rw [List.nodup_cons] at nd
    cases h with
    | cons _ h =>
      cases g with
      | cons _ g => exact no_turn l nd.2 h g
      | cons_cons _ g => exact nd.1 (h.subset (by simp))
    | cons_cons _ h =>
      cases g with
      | cons _ g => exact nd.1 (g.subset (by simp))
      | cons_cons _ g => exact nd.1 (h.subset (by simp))
theorem sorted_is {n : Net} {key : Nat → Int} (hk : ∀ j, j < n.goes.length → key j = (depAt n j : Int)) : (List.range n.goes.length).mergeSort (fun a b => decide (key b ≤ key a)) = lastFirst n := by
  have pm := List.mergeSort_perm (List.range n.goes.length) (fun a b => decide (key b ≤ key a))
  have ndr : (List.range n.goes.length).Nodup := List.nodup_range
  have nds := pm.nodup_iff.mpr ndr
  have tr : ∀ a b c : Nat, decide (key b ≤ key a) = true → decide (key c ≤ key b) = true → decide (key c ≤ key a) = true := by
    intro a b c h1 h2
    simp only [decide_eq_true_eq] at h1 h2 ⊢
    omega
  have tot : ∀ a b : Nat, (decide (key b ≤ key a) || decide (key a ≤ key b)) = true := by
    intro a b
    simp only [Bool.or_eq_true, decide_eq_true_eq]
    omega
  have ps := List.pairwise_mergeSort (le := fun a b => decide (key b ≤ key a)) tr tot (List.range n.goes.length)
  have ah : ((List.range n.goes.length).mergeSort (fun a b => decide (key b ≤ key a))).Pairwise (Ahead n) := by
    rw [List.pairwise_iff_forall_sublist]
    intro a b hab
    have ha := List.mem_range.mp (pm.mem_iff.mp (hab.subset (show a ∈ [a, b] by simp)))
    have hb := List.mem_range.mp (pm.mem_iff.mp (hab.subset (show b ∈ [a, b] by simp)))
    have h1 := List.pairwise_iff_forall_sublist.mp ps hab
    simp only [decide_eq_true_eq] at h1
    rw [hk a ha, hk b hb] at h1
    by_cases e : depAt n a = depAt n b
    · refine .inr ⟨e, ?_⟩
      have hne : a ≠ b := fun z => by
        subst z
        exact absurd (hab.nodup nds) (by simp)
      rcases Nat.lt_or_ge a b with l | l
      · exact l
      · exfalso
        have hba : b < a := by omega
        have sub : List.Sublist [b, a] (List.range n.goes.length) := by
          have s1 : List.Sublist (List.range (a + 1)) (List.range n.goes.length) := List.range_sublist.mpr ha
          rw [List.range_succ] at s1
          refine List.Sublist.trans ?_ s1
          show List.Sublist ([b] ++ [a]) _
          exact List.Sublist.append (List.singleton_sublist.mpr (List.mem_range.mpr hba)) (List.Sublist.refl _)
        have s2 := List.pair_sublist_mergeSort (le := fun a b => decide (key b ≤ key a)) tr tot (by simp only [decide_eq_true_eq]; rw [hk a ha, hk b hb]; omega) sub
        exact no_turn _ nds hab s2
    · exact .inl (by omega)
  refine List.Perm.eq_of_pairwise (fun a b _ _ h1 h2 => ?_) ah (lastFirst_ahead n) (pm.trans (lastFirst_perm n).symm)
  unfold Ahead at h1 h2
  omega
end SJ
end
section
set_option autoImplicit false
namespace SJ
open Vbtoad
/-! a worth is never ahead of its coming -/
def Late (n : Net) (ws : List Nat) : Prop := ∀ i g, n.goes[i]? = some g → g.arr ≤ wAt ws i
theorem sure_ge {n : Net} (W : WF n) {d : Nat} {ws : List Nat} (L : Late n ws) {p t : Nat} (ht : t ≤ NEVER) : t ≤ sureM n d ws p t := by
  by_cases e : p = d
  · unfold sureM
    rw [if_pos e]
    exact Nat.le_refl _
  · rcases sureM_is (n := n) (ws := ws) (t := t) e with h | ⟨i, hi, h⟩
    · rw [h]
      unfold carsAlone
      omega
    · rw [h]
      obtain ⟨g, eg, hg⟩ := mem_inTime.mp hi
      have := L i g eg
      have := W.go g (List.mem_of_getElem? eg)
      omega
theorem goes_ge {n : Net} (W : WF n) {d : Nat} {ws : List Nat} (L : Late n ws) {g : Go} (hg : g ∈ n.goes) : g.arr ≤ goesM n d ws g := by
  have hN : NEVER = 1000000000 := rfl
  have := W.go g hg
  have := W.hand g.to_
  have h1 : g.arr ≤ thereM n d g.to_ g.arr ∧ thereM n d g.to_ g.arr ≤ NEVER := by
    unfold thereM
    split <;> omega
  exact Nat.le_trans h1.1 (sure_ge W L h1.2)
theorem fill_late {n : Net} (W : WF n) {d : Nat} {fewer : Option (List Nat)} : ∀ (order ws : List Nat), Late n ws → Late n (fillM n d fewer order ws)
  | [], _, L => L
  | i :: order, ws, L => by
    unfold fillM
    rw [List.foldl_cons]
    cases eg : n.goes[i]? with
    | none => exact fill_late W order ws L
    | some g =>
      refine fill_late W order _ fun j x ex => ?_
      unfold wAt
      rw [List.getElem?_set]
      by_cases c : i = j
      · rw [if_pos c]
        subst c
        rw [eg] at ex
        cases ex
        by_cases hl : i < ws.length
        · rw [if_pos hl]
          show g.arr ≤ worthM n d fewer ws g
          have := goes_ge W (d := d) L (List.mem_of_getElem? eg)
          unfold worthM
          split
          · exact this
          · omega
        · rw [if_neg hl]
          have hN : NEVER = 1000000000 := rfl
          have := W.go g (List.mem_of_getElem? eg)
          show g.arr ≤ NEVER
          omega
      · rw [if_neg c]
        exact L j x ex
theorem start_late {n : Net} (W : WF n) : Late n (List.replicate n.goes.length NEVER) := fun i g eg => by
  have hN : NEVER = 1000000000 := rfl
  have := W.go g (List.mem_of_getElem? eg)
  unfold wAt
  rw [List.getElem?_replicate]
  split
  · show g.arr ≤ NEVER
    omega
  · show g.arr ≤ NEVER
    omega
theorem worths_late {n : Net} (W : WF n) (d : Nat) : ∀ k, Late n (worthsM n d k)
  | 0 => fill_late W _ _ (start_late W)
  | _ + 1 => fill_late W _ _ (start_late W)
/-- within a limit, in numbers -/
theorem within_is {n : Net} (W : WF n) (d k : Nat) {p t : Nat} (hp : p < n.places.length) (ht : t ≤ 100000000) {limit : Nat} (hl : limit < NEVER) :
    (sureIn n (roadsOf n) d k p t).any (fun a => decide (a ≤ limit)) = decide (sureM n d (worthsM n d k) p t ≤ limit) := by
  have S := sureIn_is W d k hp ht
  rw [S.1]
  cases e : sureIn n (roadsOf n) d k p t with
  | none =>
    rw [enc_none]
    exact (decide_eq_false (by omega)).symm
  | some a => rfl
/-! the last start -/
/-- when one must be ready at p for the departure -/
def justAt (n : Net) (p i : Nat) : Int := ((n.goes[i]?).map fun g => (g.dep : Int) - (R n p g.from_ : Int)).getD 0
def lastM (n : Net) (d : Nat) (ws : List Nat) (p limit : Nat) (m : Nat) : Int := (List.range m).foldl (fun b i => if wAt ws i ≤ limit then max b (justAt n p i) else b) ((limit : Int) - (D n p d : Int))
theorem lastM_succ (n : Net) (d : Nat) (ws : List Nat) (p limit m : Nat) : lastM n d ws p limit (m + 1) = if wAt ws m ≤ limit then max (lastM n d ws p limit m) (justAt n p m) else lastM n d ws p limit m := by
  unfold lastM
  rw [List.range_succ, List.foldl_append]
  rfl
theorem lastM_ge (n : Net) (d : Nat) (ws : List Nat) (p limit : Nat) : ∀ m, ((limit : Int) - (D n p d : Int)) ≤ lastM n d ws p limit m ∧ ∀ i, i < m → wAt ws i ≤ limit → justAt n p i ≤ lastM n d ws p limit m
  | 0 => ⟨Int.le_refl _, fun i h => absurd h (Nat.not_lt_zero _)⟩
  | m + 1 => by
    have ih := lastM_ge n d ws p limit m
    rw [lastM_succ]
    refine ⟨?_, fun i hi hw => ?_⟩
    · have := ih.1
      split <;> omega
    · rcases Nat.lt_or_ge i m with l | l
      · have := ih.2 i l hw
        split <;> omega
      · obtain rfl : i = m := by omega
        rw [if_pos hw]
        omega
theorem lastM_is (n : Net) (d : Nat) (ws : List Nat) (p limit : Nat) : ∀ m, lastM n d ws p limit m = ((limit : Int) - (D n p d : Int)) ∨ ∃ i, i < m ∧ wAt ws i ≤ limit ∧ lastM n d ws p limit m = justAt n p i
  | 0 => .inl rfl
  | m + 1 => by
    rw [lastM_succ]
    have ih := lastM_is n d ws p limit m
    have old : lastM n d ws p limit m = ((limit : Int) - (D n p d : Int)) ∨ ∃ i, i < m + 1 ∧ wAt ws i ≤ limit ∧ lastM n d ws p limit m = justAt n p i := by
      rcases ih with h | ⟨i, h1, h2, h3⟩
      · exact .inl h
      · exact .inr ⟨i, by omega, h2, h3⟩
    by_cases c : wAt ws m ≤ limit
    · rw [if_pos c]
      by_cases c2 : lastM n d ws p limit m ≤ justAt n p m
      · refine .inr ⟨m, Nat.lt_succ_self _, c, ?_⟩
        omega
      · have e : max (lastM n d ws p limit m) (justAt n p m) = lastM n d ws p limit m := by omega
        rw [e]
        exact old
    · rw [if_neg c]
      exact old
def mxStep (b : Option Nat) (t : Nat) : Option Nat := match b with
  | none => some t
  | some u => some (max t u)
theorem maxfold : ∀ (l : List Nat) (b : Option Nat), match l.foldl mxStep b with
    | none => b = none ∧ l = []
    | some m => (b = some m ∨ m ∈ l) ∧ (∀ x ∈ l, x ≤ m) ∧ ∀ y, b = some y → y ≤ m
  | [], none => ⟨rfl, rfl⟩
  | [], some y => ⟨.inl rfl, fun _ h => absurd h List.not_mem_nil, fun z h => by cases h; exact Nat.le_refl _⟩
  | x :: l, b => by
    rw [List.foldl_cons]
    have ih := maxfold l (mxStep b x)
    split
    · rename_i e
      rw [e] at ih
      cases b <;> cases ih.1
    · rename_i m e
      rw [e] at ih
      obtain ⟨h1, h2, h3⟩ := ih
      cases b with
      | none =>
        have hx := h3 x rfl
        refine ⟨.inr ?_, fun y hy => ?_, fun y hy => by cases hy⟩
        · rcases h1 with h1 | h1
          · cases h1
            exact List.mem_cons_self
          · exact List.mem_cons_of_mem _ h1
        · rcases List.mem_cons.mp hy with rfl | hy
          · exact hx
          · exact h2 y hy
      | some u =>
        have hx := h3 (max x u) rfl
        refine ⟨?_, fun y hy => ?_, fun y hy => ?_⟩
        · rcases h1 with h1 | h1
          · have h1 : max x u = m := Option.some.inj h1
            by_cases c : x ≤ u
            · exact .inl (by rw [← h1]; congr 1; omega)
            · refine .inr ?_
              have : m = x := by omega
              rw [this]
              exact List.mem_cons_self
          · exact .inr (List.mem_cons_of_mem _ h1)
        · rcases List.mem_cons.mp hy with rfl | hy
          · omega
          · exact h2 y hy
        · cases hy
          omega
theorem dec_some {m x : Nat} (h : dec m = some x) : x = m ∧ m < NEVER := by
  unfold dec at h
  split at h
  · cases h
    exact ⟨rfl, by assumption⟩
  · cases h
theorem dec_of {m : Nat} (h : m < NEVER) : dec m = some m := if_pos h
theorem justAt_of {n : Net} {p i : Nat} {g : Go} (h : n.goes[i]? = some g) : justAt n p i = (g.dep : Int) - (R n p g.from_ : Int) := by
  unfold justAt
  rw [h]
  rfl
/-- the candidates of departures -/
theorem mem_just {n : Net} (W : WF n) {p t : Nat} (hp : p < n.places.length) : t ∈ (n.goes.filterMap fun g => (readyFrom (roadsOf n) p g.from_).bind fun m => if m ≤ g.dep then some (g.dep - m) else none) ↔ ∃ i, i < n.goes.length ∧ justAt n p i = (t : Int) := by
  have hN : NEVER = 1000000000 := rfl
  rw [List.mem_filterMap]
  constructor
  · rintro ⟨g, hg, h⟩
    obtain ⟨i, hi, e⟩ := List.mem_iff_getElem.mp hg
    obtain ⟨m, hm, h⟩ := Option.bind_eq_some_iff.mp h
    rw [ready_is W hp (W.go g hg).1] at hm
    obtain ⟨rfl, hm⟩ := dec_some hm
    split at h
    · cases h
      refine ⟨i, hi, ?_⟩
      rw [justAt_of (g := g) (by rw [List.getElem?_eq_getElem hi, e])]
      omega
    · cases h
  · rintro ⟨i, hi, e⟩
    have eg : n.goes[i]? = some n.goes[i] := List.getElem?_eq_getElem hi
    rw [justAt_of eg] at e
    have G := W.go n.goes[i] (List.getElem_mem hi)
    refine ⟨n.goes[i], List.getElem_mem hi, ?_⟩
    rw [ready_is W hp G.1, dec_of (by omega)]
    show (if R n p n.goes[i].from_ ≤ n.goes[i].dep then some (n.goes[i].dep - R n p n.goes[i].from_) else none) = some t
    rw [if_pos (by omega)]
    congr 1
    omega
theorem last_is {n : Net} (W : WF n) {d k p limit : Nat} (hp : p < n.places.length) (hl : limit ≤ 100000) :
    match lastStart n (roadsOf n) d k p limit with
    | none => lastM n d (worthsM n d k) p limit n.goes.length < 0
    | some m => lastM n d (worthsM n d k) p limit n.goes.length = (m : Int) := by
  have hN : NEVER = 1000000000 := rfl
  have up := lastM_ge n d (worthsM n d k) p limit n.goes.length
  have is := lastM_is n d (worthsM n d k) p limit n.goes.length
  have C := worths_rel W d k
  have wlt : ∀ i g, n.goes[i]? = some g → i < n.goes.length := fun i g e => (List.getElem?_eq_some_iff.mp e).1
  -- what stays in the list
  have mem : ∀ t, t ∈ (lastStarts n (roadsOf n) d p limit).filter (fun t => (sureIn n (roadsOf n) d k p t).any fun a => decide (a ≤ limit)) ↔
      (((p = d ∧ t = limit) ∨ (D n p d ≤ limit ∧ t = limit - D n p d) ∨ ∃ i, i < n.goes.length ∧ justAt n p i = (t : Int)) ∧ sureM n d (worthsM n d k) p t ≤ limit) := by
    intro t
    have mem0 : t ∈ lastStarts n (roadsOf n) d p limit ↔ ((p = d ∧ t = limit) ∨ (D n p d ≤ limit ∧ t = limit - D n p d) ∨ ∃ i, i < n.goes.length ∧ justAt n p i = (t : Int)) := by
      unfold lastStarts
      rw [List.mem_append, List.mem_append, mem_just W hp]
      have e1 : t ∈ (if p = d then [limit] else []) ↔ p = d ∧ t = limit := by
        by_cases c : p = d
        · rw [if_pos c]
          simp [c]
        · rw [if_neg c]
          simp [c]
      have e2 : t ∈ (match driveTo n (roadsOf n) p d with
          | some m => if m ≤ limit then [limit - m] else []
          | none => []) ↔ D n p d ≤ limit ∧ t = limit - D n p d := by
        rw [drive_is W hp]
        by_cases c : D n p d < NEVER
        · rw [dec_of c]
          by_cases c2 : D n p d ≤ limit
          · simp [c2]
          · simp [c2]
        · have : dec (D n p d) = none := if_neg c
          rw [this]
          simp
          omega
      exact or_congr e1 (or_congr e2 Iff.rfl)
    rw [List.mem_filter, mem0]
    constructor
    · rintro ⟨h1, h2⟩
      have ht : t ≤ 100000000 := by
        rcases h1 with ⟨_, h⟩ | ⟨_, h⟩ | ⟨i, hi, h⟩
        · omega
        · omega
        · rw [justAt_of (List.getElem?_eq_getElem hi)] at h
          have := W.go n.goes[i] (List.getElem_mem hi)
          omega
      rw [within_is W d k hp ht (by omega)] at h2
      exact ⟨h1, of_decide_eq_true h2⟩
    · rintro ⟨h1, h2⟩
      have ht : t ≤ 100000000 := by
        rcases h1 with ⟨_, h⟩ | ⟨_, h⟩ | ⟨i, hi, h⟩
        · omega
        · omega
        · rw [justAt_of (List.getElem?_eq_getElem hi)] at h
          have := W.go n.goes[i] (List.getElem_mem hi)
          omega
      refine ⟨h1, ?_⟩
      rw [within_is W d k hp ht (by omega)]
      exact decide_eq_true h2
  -- each of these is at most what the program tells
  have most : ∀ t, sureM n d (worthsM n d k) p t ≤ limit → (t : Int) ≤ lastM n d (worthsM n d k) p limit n.goes.length := by
    intro t h
    by_cases e : p = d
    · have : sureM n d (worthsM n d k) p t = t := by
        unfold sureM
        rw [if_pos e]
      have h0 : D n p d = 0 := by rw [e]; exact D_self n d
      have := up.1
      omega
    · rcases sureM_is (n := n) (ws := worthsM n d k) (t := t) e with z | ⟨i, hi, z⟩
      · have := up.1
        unfold carsAlone at z
        omega
      · obtain ⟨g, eg, hg⟩ := mem_inTime.mp hi
        have := up.2 i (wlt i g eg) (by omega)
        rw [justAt_of eg] at this
        omega
  -- what the program tells is one of these, if it isn't below 0
  have there : ∀ t : Nat, lastM n d (worthsM n d k) p limit n.goes.length = (t : Int) → t ∈ (lastStarts n (roadsOf n) d p limit).filter (fun t => (sureIn n (roadsOf n) d k p t).any fun a => decide (a ≤ limit)) := by
    intro t h
    rw [mem]
    rcases is with z | ⟨i, hi, hw, z⟩
    · refine ⟨.inr (.inl ⟨by omega, by omega⟩), ?_⟩
      by_cases e : p = d
      · have : sureM n d (worthsM n d k) p t = t := by
          unfold sureM
          rw [if_pos e]
        omega
      · have := sureM_cars (n := n) (ws := worthsM n d k) (t := t) e
        unfold carsAlone at this
        omega
    · have eg : n.goes[i]? = some n.goes[i] := List.getElem?_eq_getElem hi
      refine ⟨.inr (.inr ⟨i, hi, by omega⟩), ?_⟩
      rw [justAt_of eg] at z
      have G := W.go n.goes[i] (List.getElem_mem hi)
      by_cases e : p = d
      · have e1 : sureM n d (worthsM n d k) p t = t := by
          unfold sureM
          rw [if_pos e]
        have := worths_late W d k i _ eg
        omega
      · have := sureM_go (n := n) (d := d) (ws := worthsM n d k) (p := p) (t := t) e (mem_inTime.mpr ⟨_, eg, by omega⟩)
        omega
  show match ((lastStarts n (roadsOf n) d p limit).filter fun t => (sureIn n (roadsOf n) d k p t).any fun a => decide (a ≤ limit)).foldl mxStep none with
    | none => lastM n d (worthsM n d k) p limit n.goes.length < 0
    | some m => lastM n d (worthsM n d k) p limit n.goes.length = (m : Int)
  have mf := maxfold ((lastStarts n (roadsOf n) d p limit).filter (fun t => (sureIn n (roadsOf n) d k p t).any fun a => decide (a ≤ limit))) none
  split
  · rename_i e
    rw [e] at mf
    rcases Int.lt_or_le (lastM n d (worthsM n d k) p limit n.goes.length) 0 with l | l
    · exact l
    · have := there (lastM n d (worthsM n d k) p limit n.goes.length).toNat (by omega)
      rw [mf.2] at this
      cases this
  · rename_i m e
    rw [e] at mf
    obtain ⟨h1, h2, _⟩ := mf
    have hm := h1.resolve_left (by intro z; cases z)
    have a := most m ((mem m).mp hm).2
    have b := h2 _ (there (lastM n d (worthsM n d k) p limit n.goes.length).toNat (by omega))
    omega
/-! the profile -/
def tells (n : Net) (d : Nat) (ws : List Nat) (p t : Nat) : Bool := decide (sureM n d ws p t < carsAlone n d p t) && decide (sureM n d ws p t < sureM n d ws p (t + 1))
theorem tells_iff {n : Net} {d : Nat} {ws : List Nat} {p t : Nat} : tells n d ws p t = true ↔ sureM n d ws p t < carsAlone n d p t ∧ sureM n d ws p t < sureM n d ws p (t + 1) := by
  unfold tells
  rw [Bool.and_eq_true, decide_eq_true_eq, decide_eq_true_eq]
theorem put_mem (t x : Nat) : ∀ l : List Nat, x ∈ profile.put t l ↔ x = t ∨ x ∈ l
  | [] => by simp [profile.put]
  | y :: l => by
    unfold profile.put
    by_cases c : t < y
    · rw [if_pos c]
      simp
    · rw [if_neg c]
      by_cases c2 : t = y
      · rw [if_pos c2]
        simp [c2]
      · rw [if_neg c2, List.mem_cons, put_mem t x l, List.mem_cons]
        constructor
        · rintro (h | h | h)
          · exact .inr (.inl h)
          · exact .inl h
          · exact .inr (.inr h)
        · rintro (h | h | h)
          · exact .inr (.inl h)
          · exact .inl h
          · exact .inr (.inr h)
theorem put_rising (t : Nat) : ∀ l : List Nat, l.Pairwise (· < ·) → (profile.put t l).Pairwise (· < ·)
  | [], _ => List.pairwise_singleton _ _
  | y :: l, h => by
    have h' := List.pairwise_cons.mp h
    unfold profile.put
    by_cases c : t < y
    · rw [if_pos c]
      refine List.pairwise_cons.mpr ⟨fun x hx => ?_, h⟩
      rcases List.mem_cons.mp hx with rfl | hx
      · exact c
      · have := h'.1 x hx
        omega
    · rw [if_neg c]
      by_cases c2 : t = y
      · rw [if_pos c2]
        exact h
      · rw [if_neg c2]
        refine List.pairwise_cons.mpr ⟨fun x hx => ?_, put_rising t l h'.2⟩
        rcases (put_mem t x l).mp hx with rfl | hx
        · omega
        · exact h'.1 x hx
theorem puts_is (x : Nat) : ∀ (l a : List Nat), a.Pairwise (· < ·) → (l.foldl (fun l t => profile.put t l) a).Pairwise (· < ·) ∧ (x ∈ l.foldl (fun l t => profile.put t l) a ↔ x ∈ l ∨ x ∈ a)
  | [], a, h => ⟨h, by simp⟩
  | t :: l, a, h => by
    have ih := puts_is x l (profile.put t a) (put_rising t a h)
    rw [List.foldl_cons]
    refine ⟨ih.1, ih.2.trans ?_⟩
    rw [put_mem, List.mem_cons]
    constructor
    · rintro (h | h | h)
      · exact .inl (.inr h)
      · exact .inl (.inl h)
      · exact .inr h
    · rintro ((h | h) | h)
      · exact .inr (.inl h)
      · exact .inl h
      · exact .inr (.inr h)
theorem rising_same {l m : List Int} (hl : l.Pairwise (· < ·)) (hm : m.Pairwise (· < ·)) (h : ∀ x, x ∈ l ↔ x ∈ m) : l = m := by
  have nd : ∀ {l : List Int}, l.Pairwise (· < ·) → l.Nodup := fun h => h.imp fun z => by omega
  refine List.Perm.eq_of_pairwise (fun a b _ _ h1 h2 => ?_) hl hm ((List.perm_ext_iff_of_nodup (nd hl) (nd hm)).mpr h)
  omega
theorem profile_is {n : Net} (W : WF n) {d k p : Nat} (hp : p < n.places.length) {ns : List Int} (hs : ns.Pairwise (· < ·)) (hm : ∀ x, x ∈ ns ↔ ∃ i, i < n.goes.length ∧ justAt n p i = x) :
    ∃ ts : List Nat, ns.filter (fun x => decide (0 ≤ x) && tells n d (worthsM n d k) p x.toNat) = ts.map (fun (t : Nat) => (t : Int)) ∧ profile n (roadsOf n) d k p = ts.map fun t => (t, sureM n d (worthsM n d k) p t) := by
  have hN : NEVER = 1000000000 := rfl
  let c := n.goes.filterMap fun g => (readyFrom (roadsOf n) p g.from_).bind fun m => if m ≤ g.dep then some (g.dep - m) else none
  let L := c.foldl (fun l t => profile.put t l) []
  have hL : L.Pairwise (· < ·) := (puts_is 0 c [] List.Pairwise.nil).1
  have mL : ∀ t, t ∈ L ↔ ∃ i, i < n.goes.length ∧ justAt n p i = (t : Int) := fun t => by
    refine ((puts_is t c [] List.Pairwise.nil).2).trans ?_
    rw [show (t ∈ ([] : List Nat)) ↔ False by simp, or_false]
    exact mem_just W hp
  refine ⟨L.filter (tells n d (worthsM n d k) p), ?_, ?_⟩
  · refine rising_same (hs.filter _) ?_ fun x => ?_
    · refine List.Pairwise.map _ (fun a b h => ?_) (hL.filter _)
      omega
    · rw [List.mem_filter, hm, List.mem_map]
      constructor
      · rintro ⟨⟨i, hi, e⟩, h⟩
        rw [Bool.and_eq_true, decide_eq_true_eq] at h
        refine ⟨x.toNat, List.mem_filter.mpr ⟨(mL _).mpr ⟨i, hi, by omega⟩, h.2⟩, by omega⟩
      · rintro ⟨t, ht, rfl⟩
        obtain ⟨h1, h2⟩ := List.mem_filter.mp ht
        refine ⟨(mL t).mp h1, ?_⟩
        rw [Bool.and_eq_true, decide_eq_true_eq]
        exact ⟨by omega, h2⟩
  · show L.filterMap _ = _
    have small : ∀ t ∈ L, t ≤ 100000 := fun t ht => by
      obtain ⟨i, hi, e⟩ := (mL t).mp ht
      rw [justAt_of (List.getElem?_eq_getElem hi)] at e
      have := W.go n.goes[i] (List.getElem_mem hi)
      omega
    have key : ∀ l : List Nat, (∀ t ∈ l, t ≤ 100000) → (l.filterMap fun t => match sureIn n (roadsOf n) d k p t, sureIn n (roadsOf n) d k p (t + 1) with
        | some a, b => if (match b with
            | none => true
            | some c => decide (a < c)) = true ∧ (driveTo n (roadsOf n) p d).all (fun m => decide (a < t + m)) = true then some (t, a) else none
        | none, _ => none) = (l.filter (tells n d (worthsM n d k) p)).map fun t => (t, sureM n d (worthsM n d k) p t) := by
      intro l
      induction l with
      | nil => intro _; rfl
      | cons t l ih =>
        intro hl
        have ht := hl t List.mem_cons_self
        have ih := ih fun x hx => hl x (List.mem_cons_of_mem _ hx)
        have S1 := sureIn_is W d k hp (t := t) (by omega)
        have S2 := sureIn_is W d k hp (t := t + 1) (by omega)
        have fx : (match sureIn n (roadsOf n) d k p t, sureIn n (roadsOf n) d k p (t + 1) with
            | some a, b => if (match b with
                | none => true
                | some c => decide (a < c)) = true ∧ (driveTo n (roadsOf n) p d).all (fun m => decide (a < t + m)) = true then some (t, a) else none
            | none, _ => none) = if tells n d (worthsM n d k) p t = true then some (t, sureM n d (worthsM n d k) p t) else none := by
          have dr : ∀ a, a < NEVER → ((driveTo n (roadsOf n) p d).all (fun m => decide (a < t + m)) = true ↔ a < carsAlone n d p t) := by
            intro a ha
            rw [drive_is W hp]
            unfold carsAlone
            by_cases c : D n p d < NEVER
            · rw [dec_of c]
              show decide (a < t + D n p d) = true ↔ _
              rw [decide_eq_true_eq]
              omega
            · have e : dec (D n p d) = none := if_neg c
              rw [e]
              show true = true ↔ _
              constructor
              · intro _
                omega
              · intro _
                rfl
          have cn := carsAlone_never (n := n) (d := d) (p := p) (t := t)
          have pick : ∀ (x : Option (Nat × Nat)) (q : Prop) [Decidable q], (q ↔ tells n d (worthsM n d k) p t = true) → (tells n d (worthsM n d k) p t = true → x = some (t, sureM n d (worthsM n d k) p t)) → (if q then x else none) = if tells n d (worthsM n d k) p t = true then some (t, sureM n d (worthsM n d k) p t) else none := by
            intro x q _ hq hx
            by_cases c : q
            · rw [if_pos c, if_pos (hq.mp c), hx (hq.mp c)]
            · rw [if_neg c, if_neg (fun z => c (hq.mpr z))]
          cases e1 : sureIn n (roadsOf n) d k p t with
          | none =>
            rw [e1] at S1
            have s1 : sureM n d (worthsM n d k) p t = NEVER := S1.1
            rw [if_neg (fun z => by have := (tells_iff.mp z).1; omega)]
          | some a =>
            rw [e1] at S1
            have s1 : sureM n d (worthsM n d k) p t = a := S1.1
            have ha := (S1.2 a rfl).1
            have dra := dr a ha
            cases e2 : sureIn n (roadsOf n) d k p (t + 1) with
            | none =>
              rw [e2] at S2
              have s2 : sureM n d (worthsM n d k) p (t + 1) = NEVER := S2.1
              refine pick (some (t, a)) _ ?_ (fun _ => by rw [s1])
              rw [tells_iff, s1, s2, dra]
              constructor
              · rintro ⟨_, h⟩
                exact ⟨h, ha⟩
              · rintro ⟨h, _⟩
                exact ⟨rfl, h⟩
            | some b =>
              rw [e2] at S2
              have s2 : sureM n d (worthsM n d k) p (t + 1) = b := S2.1
              refine pick (some (t, a)) _ ?_ (fun _ => by rw [s1])
              rw [tells_iff, s1, s2, dra]
              show decide (a < b) = true ∧ _ ↔ _
              rw [decide_eq_true_eq]
              exact And.comm
        rw [List.filterMap_cons, fx, ih, List.filter_cons]
        by_cases c : tells n d (worthsM n d k) p t = true
        · rw [if_pos c, if_pos c]
          rfl
        · rw [if_neg c, if_neg c]
    exact key L small
end SJ
end
section
set_option autoImplicit false
namespace SJ
open Vbtoad
/-! a worst case, step by step -/
theorem fill_canc {n : Net} (W : WF n) {d : Nat} {us : List Nat} : ∀ (order ws : List Nat), (∀ i g, n.goes[i]? = some g → sureM n d us g.from_ (g.dep + 1) ≤ wAt ws i) → ∀ i g, n.goes[i]? = some g → sureM n d us g.from_ (g.dep + 1) ≤ wAt (fillM n d (some us) order ws) i
  | [], _, L => L
  | i :: order, ws, L => by
    unfold fillM
    rw [List.foldl_cons]
    cases eg : n.goes[i]? with
    | none => exact fill_canc W order ws L
    | some g =>
      refine fill_canc W order _ fun j x ex => ?_
      unfold wAt
      rw [List.getElem?_set]
      by_cases c : i = j
      · rw [if_pos c]
        subst c
        rw [eg] at ex
        cases ex
        by_cases hl : i < ws.length
        · rw [if_pos hl]
          exact Nat.le_max_right _ _
        · rw [if_neg hl]
          have := L i g eg
          unfold wAt at this
          rw [List.getElem?_eq_none (by omega)] at this
          exact this
      · rw [if_neg c]
        exact L j x ex
theorem sureM_top {n : Net} {d : Nat} {ws : List Nat} {p t : Nat} (ht : t ≤ NEVER) : sureM n d ws p t ≤ NEVER := by
  by_cases e : p = d
  · unfold sureM
    rw [if_pos e]
    exact ht
  · exact sureM_never e
theorem worths_canc {n : Net} (W : WF n) (d k : Nat) {i : Nat} {g : Go} (eg : n.goes[i]? = some g) : sureM n d (worthsM n d k) g.from_ (g.dep + 1) ≤ wAt (worthsM n d (k + 1)) i := by
  refine fill_canc W (lastFirst n) (List.replicate n.goes.length NEVER) (fun j x ex => ?_) i g eg
  have hN : NEVER = 1000000000 := rfl
  have := W.go x (List.mem_of_getElem? ex)
  have h := sureM_top (n := n) (d := d) (ws := worthsM n d k) (p := x.from_) (t := x.dep + 1) (by omega)
  unfold wAt
  rw [List.getElem?_replicate]
  split
  · exact h
  · exact h
/-- cancelled it would be worse -/
def worseM (n : Net) (d k : Nat) (g : Go) : Bool := match k with
  | 0 => false
  | k + 1 => decide (goesM n d (worthsM n d (k + 1)) g < sureM n d (worthsM n d k) g.from_ (g.dep + 1))
theorem worse_is {n : Net} (W : WF n) {d k i : Nat} {g : Go} (eg : n.goes[i]? = some g) (hw : wAt (worthsM n d k) i < NEVER) :
    (k ≠ 0 ∧ (match gone n (roadsOf n) d (tableFor n (roadsOf n) d k) g, sureIn n (roadsOf n) d (k - 1) g.from_ (g.dep + 1) with
      | some a, some b => decide (a < b)
      | _, _ => false) = true) ↔ worseM n d k g = true := by
  have hg := List.mem_of_getElem? eg
  have G := W.go g hg
  cases k with
  | zero => exact ⟨fun h => absurd rfl h.1, fun h => by cases h⟩
  | succ k =>
    have g1 := gone_is W (d := d) (worths_rel W d (k + 1)) hg
    have s1 := sureIn_is W d k (p := g.from_) (t := g.dep + 1) G.1 (by omega)
    have c := worths_canc W d k eg
    show (k + 1 ≠ 0 ∧ (match gone n (roadsOf n) d (tableFor n (roadsOf n) d (k + 1)) g, sureIn n (roadsOf n) d k g.from_ (g.dep + 1) with
      | some a, some b => decide (a < b)
      | _, _ => false) = true) ↔ decide (goesM n d (worthsM n d (k + 1)) g < sureM n d (worthsM n d k) g.from_ (g.dep + 1)) = true
    rw [decide_eq_true_eq]
    cases e2 : sureIn n (roadsOf n) d k g.from_ (g.dep + 1) with
    | none =>
      rw [e2] at s1
      have := s1.1
      rw [enc_none] at this
      omega
    | some b =>
      rw [e2] at s1
      have s2 : sureM n d (worthsM n d k) g.from_ (g.dep + 1) = b := s1.1
      have hb := (s1.2 b rfl).1
      rw [s2]
      cases e1 : gone n (roadsOf n) d (tableFor n (roadsOf n) d (k + 1)) g with
      | none =>
        rw [e1] at g1
        have g2 : goesM n d (worthsM n d (k + 1)) g = NEVER := g1.1
        rw [g2]
        constructor
        · rintro ⟨_, h⟩
          cases h
        · intro h
          omega
      | some a =>
        rw [e1] at g1
        have g2 : goesM n d (worthsM n d (k + 1)) g = a := g1.1
        rw [g2]
        show _ ∧ decide (a < b) = true ↔ _
        rw [decide_eq_true_eq]
        exact ⟨fun h => h.2, fun h => ⟨Nat.succ_ne_zero k, h⟩⟩
def stepW (n : Net) (d : Nat) (s : At) : Option (At × List Nat) := match toDoM n d (worthsM n d s.k) s.p s.t with
  | some (.drive c) => (match n.cars[c]? with
    | some x => some (⟨s.k, x.to_, thereM n d x.to_ (s.t + x.long)⟩, [])
    | none => none)
  | some (.wait i) => (match n.goes[i]? with
    | some g => if worseM n d s.k g = true then some (⟨s.k - 1, s.p, g.dep + 1⟩, [i]) else some (⟨s.k, g.to_, thereM n d g.to_ g.arr⟩, [])
    | none => none)
  | _ => none
theorem worst_goal (n : Net) (d f k t : Nat) : worst n (roadsOf n) d f k d t = [] := by
  cases f with
  | zero => rfl
  | succ f =>
    have e : toDo n (roadsOf n) d k d t = some .there := by
      unfold toDo
      rw [if_pos rfl]
    unfold worst
    rw [e]
theorem worst_step {n : Net} (W : WF n) (d f : Nat) (s : At) (hp : s.p < n.places.length) (ht : s.t ≤ 100000000) : worst n (roadsOf n) d (f + 1) s.k s.p s.t = match stepW n d s with
    | none => []
    | some (a, l) => l ++ worst n (roadsOf n) d f a.k a.p a.t := by
  have e := toDo_is W d s.k hp ht
  by_cases ep : s.p = d
  · have e1 : stepW n d s = none := by
      unfold stepW toDoM
      rw [if_pos ep]
    rw [e1, ep]
    exact worst_goal n d _ s.k s.t
  · by_cases hs : sureM n d (worthsM n d s.k) s.p s.t = NEVER
    · have e2 : toDoM n d (worthsM n d s.k) s.p s.t = none := by
        unfold toDoM
        rw [if_neg ep, if_pos hs]
      have e1 : stepW n d s = none := by
        unfold stepW
        rw [e2]
      rw [e1]
      rw [e2] at e
      unfold worst
      rw [e]
    · have drive : ∀ c x, toDoM n d (worthsM n d s.k) s.p s.t = some (.drive c) → n.cars[c]? = some x → worst n (roadsOf n) d (f + 1) s.k s.p s.t = match stepW n d s with
          | none => []
          | some (a, l) => l ++ worst n (roadsOf n) d f a.k a.p a.t := by
        intro c x e2 ex
        have e1 : stepW n d s = some (⟨s.k, x.to_, thereM n d x.to_ (s.t + x.long)⟩, []) := by
          unfold stepW
          rw [e2]
          simp only [ex]
        rw [e1]
        rw [e2] at e
        conv => lhs; unfold worst
        rw [e]
        simp only [ex, List.nil_append]
        by_cases ed : x.to_ = d
        · rw [if_pos ed, ed, worst_goal]
        · rw [if_neg ed]
          unfold thereM
          rw [if_neg ed]
      rcases toDoM_some W hp ep hs with ⟨_, c, x, _, ex, _, e2⟩ | ⟨_, i, g, ei, eg, _, ⟨efrom, e2⟩ | ⟨_, c, x, _, ex, _, e2⟩⟩
      · exact drive c x e2 ex
      · have hw : wAt (worthsM n d s.k) i < NEVER := by
          have m := firstGoing_mem n ei
          have z := (List.mem_filter.mp m).2
          have z : wAt (worthsM n d s.k) i = sureM n d (worthsM n d s.k) s.p s.t := by simpa using z
          have := sureM_never (n := n) (ws := worthsM n d s.k) (t := s.t) ep
          omega
        have wi := worse_is W (d := d) eg hw
        rw [efrom] at wi
        rw [e2] at e
        by_cases ho : worseM n d s.k g = true
        · have e1 : stepW n d s = some (⟨s.k - 1, s.p, g.dep + 1⟩, [i]) := by
            unfold stepW
            rw [e2]
            simp only [eg]
            rw [if_pos ho]
          rw [e1]
          conv => lhs; unfold worst
          rw [e]
          simp only [eg]
          exact Eq.trans (if_pos (wi.mpr ho)) rfl
        · have e1 : stepW n d s = some (⟨s.k, g.to_, thereM n d g.to_ g.arr⟩, []) := by
            unfold stepW
            rw [e2]
            simp only [eg]
            rw [if_neg ho]
          rw [e1]
          conv => lhs; unfold worst
          rw [e]
          simp only [eg]
          refine Eq.trans (if_neg (fun z => ho (wi.mp z))) ?_
          show _ = [] ++ _
          rw [List.nil_append]
          by_cases ed : g.to_ = d
          · rw [if_pos ed, ed, worst_goal]
          · rw [if_neg ed]
            unfold thereM
            rw [if_neg ed]
      · exact drive c x e2 ex
/-- those cancelled so far are behind -/
def Behind (n : Net) (out : List Nat) (t : Nat) : Prop := ∀ j ∈ out, depAt n j < t
theorem depAt_of {n : Net} {i : Nat} {g : Go} (h : n.goes[i]? = some g) : depAt n i = g.dep := by
  unfold depAt
  rw [h]
  rfl
/-- one step of the worst case is a step with those cancelled so far -/
theorem stepW_is {n : Net} (W : WF n) {d : Nat} {s : At} {out : List Nat} (hp : s.p < n.places.length) (B : Behind n out s.t) :
    (∃ a l x, stepW n d s = some (a, l) ∧ stepM n d (out ++ l) s = some (a, x) ∧ Behind n (out ++ l) a.t) ∨ (stepW n d s = none ∧ (s.p = d ∨ sureM n d (worthsM n d s.k) s.p s.t = NEVER)) := by
  by_cases ep : s.p = d
  · refine .inr ⟨?_, .inl ep⟩
    unfold stepW toDoM
    rw [if_pos ep]
  · by_cases hs : sureM n d (worthsM n d s.k) s.p s.t = NEVER
    · refine .inr ⟨?_, .inr hs⟩
      unfold stepW toDoM
      rw [if_neg ep, if_pos hs]
    · refine .inl ?_
      have th : ∀ q c, c ≤ thereM n d q c := fun q c => by
        unfold thereM
        split <;> omega
      have drive : ∀ c x, toDoM n d (worthsM n d s.k) s.p s.t = some (.drive c) → n.cars[c]? = some x → ∃ a l x, stepW n d s = some (a, l) ∧ stepM n d (out ++ l) s = some (a, x) ∧ Behind n (out ++ l) a.t := by
        intro c x e2 ex
        refine ⟨⟨s.k, x.to_, thereM n d x.to_ (s.t + x.long)⟩, [], ⟨1, c, s.t⟩, ?_, ?_, fun j hj => ?_⟩
        · unfold stepW
          rw [e2]
          simp only [ex]
        · unfold stepM
          rw [e2]
          simp only [ex]
        · rw [List.append_nil] at hj
          have := B j hj
          have := th x.to_ (s.t + x.long)
          show depAt n j < thereM n d x.to_ (s.t + x.long)
          omega
      rcases toDoM_some W hp ep hs with ⟨_, c, x, _, ex, _, e2⟩ | ⟨_, i, g, ei, eg, hin, ⟨efrom, e2⟩ | ⟨_, c, x, _, ex, _, e2⟩⟩
      · exact drive c x e2 ex
      · have hR : R n s.p g.from_ = 0 := by rw [efrom]; exact R_self n s.p
        have G := W.go g (List.mem_of_getElem? eg)
        by_cases ho : worseM n d s.k g = true
        · refine ⟨⟨s.k - 1, s.p, g.dep + 1⟩, [i], ⟨3, i, g.dep⟩, ?_, ?_, fun j hj => ?_⟩
          · unfold stepW
            rw [e2]
            simp only [eg]
            rw [if_pos ho]
          · unfold stepM
            rw [e2]
            simp only [eg]
            rw [if_pos (by simp)]
          · show depAt n j < g.dep + 1
            rcases List.mem_append.mp hj with hj | hj
            · have := B j hj
              omega
            · have : j = i := by simpa using hj
              rw [this, depAt_of eg]
              omega
        · have nin : i ∉ out := fun z => by
            have := B i z
            rw [depAt_of eg] at this
            omega
          refine ⟨⟨s.k, g.to_, thereM n d g.to_ g.arr⟩, [], ⟨2, i, g.dep⟩, ?_, ?_, fun j hj => ?_⟩
          · unfold stepW
            rw [e2]
            simp only [eg]
            rw [if_neg ho]
          · unfold stepM
            rw [e2]
            simp only [eg]
            rw [if_neg (by rw [List.append_nil]; simpa using nin)]
          · rw [List.append_nil] at hj
            have := B j hj
            have := th g.to_ g.arr
            show depAt n j < thereM n d g.to_ g.arr
            omega
      · exact drive c x e2 ex
end SJ
end
section
set_option autoImplicit false
namespace SJ
open Vbtoad
/-! a journey and a worst case, followed step by step -/
theorem stepM_some {n : Net} (W : WF n) {d : Nat} {s : At} (out : List Nat) (hp : s.p < n.places.length) (h1 : s.p ≠ d) (h2 : sureM n d (worthsM n d s.k) s.p s.t ≠ NEVER) :
    ∃ act a x, toDoM n d (worthsM n d s.k) s.p s.t = some act ∧ stepM n d out s = some (a, x) := by
  have drive : ∀ c x, toDoM n d (worthsM n d s.k) s.p s.t = some (.drive c) → n.cars[c]? = some x → ∃ act a x, toDoM n d (worthsM n d s.k) s.p s.t = some act ∧ stepM n d out s = some (a, x) := by
    intro c x e2 ex
    refine ⟨_, ⟨s.k, x.to_, thereM n d x.to_ (s.t + x.long)⟩, ⟨1, c, s.t⟩, e2, ?_⟩
    unfold stepM
    rw [e2]
    simp only [ex]
  rcases toDoM_some W hp h1 h2 with ⟨_, c, x, _, ex, _, e2⟩ | ⟨_, i, g, ei, eg, hin, ⟨efrom, e2⟩ | ⟨_, c, x, _, ex, _, e2⟩⟩
  · exact drive c x e2 ex
  · unfold stepM
    rw [e2]
    simp only [eg]
    by_cases c : out.contains i = true
    · exact ⟨_, _, _, rfl, if_pos c⟩
    · exact ⟨_, _, _, rfl, if_neg c⟩
  · exact drive c x e2 ex
theorem stepM_none {n : Net} {d : Nat} {s : At} (out : List Nat) (h : s.p = d ∨ sureM n d (worthsM n d s.k) s.p s.t = NEVER) : stepM n d out s = none := by
  unfold stepM toDoM
  by_cases ep : s.p = d
  · rw [if_pos ep]
  · rw [if_neg ep, if_pos (h.resolve_left ep)]
structure PlayInv (n : Net) (d : Nat) (out : List Nat) (s0 s : At) (l : List Step) : Prop where
  pl : s.p < n.places.length
  tm : s.t ≤ 101000 + 11000 * l.length
  ms : l.length + mu n d (worthsM n d s.k) s.p s.t ≤ 248
  kk : s.k ≤ s0.k
  eq : play n (roadsOf n) d out FUEL s0.k s0.p s0.t = (l ++ (play n (roadsOf n) d out (FUEL - l.length) s.k s.p s.t).1, (play n (roadsOf n) d out (FUEL - l.length) s.k s.p s.t).2)
theorem PlayInv.start {n : Net} (W : WF n) {d : Nat} {out : List Nat} {s : At} (hp : s.p < n.places.length) (ht : s.t ≤ 101000) : PlayInv n d out s s [] where
  pl := hp
  tm := by simpa using ht
  ms := by simpa using mu_most W hp d (worthsM n d s.k) s.t
  kk := Nat.le_refl _
  eq := rfl
theorem PlayInv.step {n : Net} (W : WF n) {d : Nat} {out : List Nat} {s0 s a : At} {l : List Step} {x : Step} (I : PlayInv n d out s0 s l) (h : stepM n d out s = some (a, x)) : PlayInv n d out s0 a (l ++ [x]) ∧ mu n d (worthsM n d a.k) a.p a.t < mu n d (worthsM n d s.k) s.p s.t := by
  obtain ⟨h1, h2, h3, h4, h5, h6⟩ := step_mu W I.pl h
  have m := I.ms
  have t := I.tm
  have hF : FUEL = 400 := rfl
  refine ⟨⟨h2, ?_, ?_, Nat.le_trans h6 I.kk, ?_⟩, h1⟩
  · rw [List.length_append]
    show a.t ≤ 101000 + 11000 * (l.length + 1)
    omega
  · rw [List.length_append]
    show l.length + 1 + _ ≤ 248
    omega
  · have e : FUEL - l.length = (398 - l.length) + 2 := by omega
    have e2 : FUEL - (l ++ [x]).length = (398 - l.length) + 1 := by
      rw [List.length_append]
      show FUEL - (l.length + 1) = _
      omega
    have ps := play_step W d out (398 - l.length) s I.pl (by omega)
    rw [h] at ps
    rw [I.eq, e, e2, ps, List.append_assoc]
    rfl
theorem PlayInv.done {n : Net} (W : WF n) {d : Nat} {out : List Nat} {s0 s : At} {l : List Step} (I : PlayInv n d out s0 s l) (h : s.p = d ∨ sureM n d (worthsM n d s.k) s.p s.t = NEVER) : play n (roadsOf n) d out FUEL s0.k s0.p s0.t = (l, if s.p = d then some s.t else none) := by
  have m := I.ms
  have t := I.tm
  have hF : FUEL = 400 := rfl
  have e : FUEL - l.length = (398 - l.length) + 2 := by omega
  have ps := play_step W d out (398 - l.length) s I.pl (by omega)
  rw [stepM_none out h] at ps
  rw [I.eq, e, ps, List.append_nil]
structure WorstInv (n : Net) (d : Nat) (s0 s : At) (l : List Step) (out : List Nat) : Prop where
  pl : s.p < n.places.length
  tm : s.t ≤ 101000 + 11000 * l.length
  ms : l.length + mu n d (worthsM n d s.k) s.p s.t ≤ 248
  kk : s.k ≤ s0.k
  ol : out.length ≤ l.length
  bh : Behind n out s.t
  eq : worst n (roadsOf n) d FUEL s0.k s0.p s0.t = out ++ worst n (roadsOf n) d (FUEL - l.length) s.k s.p s.t
theorem WorstInv.start {n : Net} (W : WF n) {d : Nat} {s : At} (hp : s.p < n.places.length) (ht : s.t ≤ 101000) : WorstInv n d s s [] [] where
  pl := hp
  tm := by simpa using ht
  ms := by simpa using mu_most W hp d (worthsM n d s.k) s.t
  kk := Nat.le_refl _
  ol := Nat.le_refl _
  bh := fun _ h => absurd h List.not_mem_nil
  eq := rfl
theorem WorstInv.step {n : Net} (W : WF n) {d : Nat} {s0 s : At} {l : List Step} {out : List Nat} (I : WorstInv n d s0 s l out) (h1 : s.p ≠ d) (h2 : sureM n d (worthsM n d s.k) s.p s.t ≠ NEVER) :
    ∃ a more x, stepW n d s = some (a, more) ∧ stepM n d (out ++ more) s = some (a, x) ∧ WorstInv n d s0 a (l ++ [x]) (out ++ more) ∧ mu n d (worthsM n d a.k) a.p a.t < mu n d (worthsM n d s.k) s.p s.t := by
  rcases stepW_is W (d := d) I.pl I.bh with ⟨a, more, x, e1, e2, e3⟩ | ⟨_, z | z⟩
  · refine ⟨a, more, x, e1, e2, ?_⟩
    obtain ⟨m1, m2, m3, m4, m5, m6⟩ := step_mu W I.pl e2
    have m := I.ms
    have t := I.tm
    have o := I.ol
    have hF : FUEL = 400 := rfl
    have ml : more.length ≤ 1 := by
      unfold stepW at e1
      split at e1
      · split at e1
        · cases e1
          exact Nat.zero_le _
        · cases e1
      · split at e1
        · split at e1
          · cases e1
            exact Nat.le_refl _
          · cases e1
            exact Nat.zero_le _
        · cases e1
      · cases e1
    refine ⟨⟨m2, ?_, ?_, Nat.le_trans m6 I.kk, ?_, e3, ?_⟩, m1⟩
    · rw [List.length_append]
      show a.t ≤ 101000 + 11000 * (l.length + 1)
      omega
    · rw [List.length_append]
      show l.length + 1 + _ ≤ 248
      omega
    · rw [List.length_append, List.length_append]
      show _ ≤ l.length + 1
      omega
    · have e : FUEL - l.length = (399 - l.length) + 1 := by omega
      have e4 : FUEL - (l ++ [x]).length = 399 - l.length := by
        rw [List.length_append]
        show FUEL - (l.length + 1) = _
        omega
      have ws := worst_step W d (399 - l.length) s I.pl (by omega)
      rw [e1] at ws
      rw [I.eq, e, e4, ws, List.append_assoc]
  · exact absurd z h1
  · exact absurd z h2
theorem WorstInv.done {n : Net} (W : WF n) {d : Nat} {s0 s : At} {l : List Step} {out : List Nat} (I : WorstInv n d s0 s l out) (h : s.p = d ∨ sureM n d (worthsM n d s.k) s.p s.t = NEVER) : worst n (roadsOf n) d FUEL s0.k s0.p s0.t = out := by
  have m := I.ms
  have t := I.tm
  have hF : FUEL = 400 := rfl
  have e : FUEL - l.length = (399 - l.length) + 1 := by omega
  have ws := worst_step W d (399 - l.length) s I.pl (by omega)
  have e1 : stepW n d s = none := by
    unfold stepW toDoM
    by_cases ep : s.p = d
    · rw [if_pos ep]
    · rw [if_neg ep, if_pos (h.resolve_left ep)]
  rw [e1] at ws
  rw [I.eq, e, ws, List.append_nil]
end SJ
end
section
set_option autoImplicit false
namespace SJ
/-! calls out of one list -/
theorem drop_at {l : List Int} {b : Nat} {p : Int} {r : List Int} (h : l.drop b = p :: r) : l[b]? = some p ∧ r = l.drop (b + 1) ∧ b < l.length := by
  have hb : b < l.length := by
    rcases Nat.lt_or_ge b l.length with c | c
    · exact c
    · rw [List.drop_eq_nil_of_le c] at h
      cases h
  have e := List.drop_eq_getElem_cons hb
  rw [h] at e
  obtain ⟨e1, e2⟩ := List.cons.inj e
  exact ⟨by rw [List.getElem?_eq_getElem hb, e1], e2, hb⟩
theorem call_parts {sh : Int → Option (Nat × Nat)} {l : List Int} {b : Nat} {c : List (List Int)} {rest : List Int} (h : PyFlat.call sh (l.drop b) = some (c, rest)) :
    ∃ p n k xs, l[b]? = some p ∧ sh p = some (n, k) ∧ b + 1 + n ≤ l.length ∧ PyFlat.rows k (l.drop (b + 1 + n)) = some (xs, rest) ∧ c = (p :: (l.drop (b + 1)).take n) :: xs := by
  cases e : l.drop b with
  | nil =>
    rw [e] at h
    cases h
  | cons p r =>
    rw [e] at h
    obtain ⟨e1, e2, e3⟩ := drop_at e
    unfold PyFlat.call at h
    cases es : sh p with
    | none =>
      simp only [es] at h
      cases h
    | some nk =>
      obtain ⟨n, k⟩ := nk
      simp only [es] at h
      split at h
      · cases h
      · rename_i hl
        cases er : PyFlat.rows k (r.drop n) with
        | none =>
          simp only [er] at h
          cases h
        | some xt =>
          obtain ⟨xs, t⟩ := xt
          simp only [er] at h
          obtain ⟨h1, h2⟩ := Prod.mk.inj (Option.some.inj h)
          have rl : r.length = l.length - (b + 1) := by rw [e2, List.length_drop]
          refine ⟨p, n, k, xs, e1, es, by omega, ?_, ?_⟩
          · rw [← List.drop_drop, ← e2, er, h2]
          · rw [← h1, e2]
theorem rows_zero {xs : List (List Int)} {r rest : List Int} (h : PyFlat.rows 0 r = some (xs, rest)) : xs = [] ∧ rest = r := by
  unfold PyFlat.rows at h
  obtain ⟨h1, h2⟩ := Prod.mk.inj (Option.some.inj h)
  exact ⟨h1.symm, h2.symm⟩
theorem rows_step {k b : Nat} {l : List Int} {xs : List (List Int)} {rest : List Int} (h : PyFlat.rows (k + 1) (l.drop b) = some (xs, rest)) :
    ∃ (m : Nat) (ys : List (List Int)), l[b]? = some (m : Int) ∧ b + 1 + m ≤ l.length ∧ xs = (l.drop (b + 1)).take m :: ys ∧ PyFlat.rows k (l.drop (b + 1 + m)) = some (ys, rest) := by
  cases e : l.drop b with
  | nil =>
    rw [e] at h
    cases h
  | cons p r =>
    rw [e] at h
    obtain ⟨e1, e2, e3⟩ := drop_at e
    have rl : r.length = l.length - (b + 1) := by rw [e2, List.length_drop]
    unfold PyFlat.rows at h
    unfold PyFlat.row at h
    simp only at h
    split at h
    · cases h
    · rename_i x s hx
      split at hx
      · rename_i hc
        obtain ⟨x1, x2⟩ := Prod.mk.inj (Option.some.inj hx)
        cases er : PyFlat.rows k s with
        | none =>
          simp only [er] at h
          cases h
        | some yt =>
          obtain ⟨ys, t⟩ := yt
          simp only [er] at h
          obtain ⟨h1, h2⟩ := Prod.mk.inj (Option.some.inj h)
          refine ⟨p.toNat, ys, ?_, by omega, ?_, ?_⟩
          · rw [e1]
            congr 1
            omega
          · rw [← h1, ← x1, e2]
          · rw [← List.drop_drop, ← e2, x2, er, h2]
      · cases hx
theorem calls_step {sh : Int → Option (Nat × Nat)} {f : Nat} {l : List Int} {b : Nat} {cs : List (List (List Int))} (hb : b < l.length) (h : PyFlat.calls sh f (l.drop b) = some cs) :
    ∃ g c rest ds, PyFlat.call sh (l.drop b) = some (c, rest) ∧ PyFlat.calls sh g rest = some ds ∧ cs = c :: ds := by
  have e := List.drop_eq_getElem_cons hb
  rw [e] at h ⊢
  cases f with
  | zero => cases h
  | succ f =>
    unfold PyFlat.calls at h
    cases ec : PyFlat.call sh (l[b] :: l.drop (b + 1)) with
    | none =>
      simp only [ec] at h
      cases h
    | some ct =>
      obtain ⟨c, t⟩ := ct
      simp only [ec] at h
      cases ed : PyFlat.calls sh f t with
      | none =>
        simp only [ed] at h
        cases h
      | some ds =>
        simp only [ed] at h
        exact ⟨f, c, t, ds, rfl, ed, (Option.some.inj h).symm⟩
theorem calls_end {sh : Int → Option (Nat × Nat)} {f : Nat} {l : List Int} {b : Nat} {cs : List (List (List Int))} (hb : l.length ≤ b) (h : PyFlat.calls sh f (l.drop b) = some cs) : cs = [] := by
  rw [List.drop_eq_nil_of_le hb] at h
  cases f with
  | zero =>
    unfold PyFlat.calls at h
    exact (Option.some.inj h).symm
  | succ f =>
    unfold PyFlat.calls at h
    exact (Option.some.inj h).symm
theorem whole_id (c : List (List Int)) : PyVbtoad.whole c = c := by
  unfold PyVbtoad.whole
  split <;> rfl
theorem whole_map (cs : List (List (List Int))) : cs.map PyVbtoad.whole = cs := by
  induction cs with
  | nil => rfl
  | cons c cs ih => rw [List.map_cons, whole_id, ih]
/-- what is meant, unfolded -/
theorem asked1_dec {c : List (List Int)} (h : VbtoadNeutral.asked1 c = true) : ∃ d, Vbtoad.decode c = some d := by
  unfold VbtoadNeutral.asked1 at h
  split at h
  all_goals first
    | exact ⟨_, rfl⟩
    | cases h
theorem asked_is {l : List Int} (h : PyVbtoad.answers_asked l = true) : ∃ cs, PyFlat.calls PyVbtoad.shape l.length l = some cs ∧ PyVbtoad.answers l = PyFlat.told (PyFlat.played VbtoadNeutral.step VbtoadNeutral.start cs) ∧ (PyVbtoad.answers l).length ≤ 10000000 ∧ ∀ c ∈ cs, ∃ d, Vbtoad.decode c = some d := by
  unfold PyVbtoad.answers_asked at h
  cases e : PyFlat.calls PyVbtoad.shape l.length l with
  | none =>
    simp only [e] at h
    cases h
  | some cs =>
    simp only [e] at h
    rw [Bool.and_eq_true, Bool.and_eq_true, whole_map] at h
    refine ⟨cs, rfl, ?_, of_decide_eq_true h.2, fun c hc => ?_⟩
    · unfold PyVbtoad.answers PyVbtoad.calls
      rw [e]
      simp only [whole_map]
    · have h1 := h.1.2
      unfold VbtoadNeutral.asked at h1
      rw [Bool.and_eq_true] at h1
      exact asked1_dec (List.all_eq_true.mp h1.1 c hc)
end SJ
end
section
set_option Elab.async false
set_option linter.all false
set_option maxRecDepth 100000
set_option maxHeartbeats 4000000
/-! The classes that only hold what they are given. -/
namespace SJ
open PySem PySem.Spec PyProof.Rows L2
section
variable {P : Program} {w : World} {K : PySem.W.Frag} {mg : Str → Option Value} {base : Heap}
def sp_Word_init (K : PySem.W.Frag) : Sp := fun vs H Q _ => ∃ (p dx : Addr) (v_signs v_place : V), vs = [.ref p, v_signs, v_place] ∧ H p = some (.ins (He.ga K "Word") dx []) ∧ ∀ H1, H1 p = some (.ins (He.ga K "Word") dx [("signs", v_signs), ("place", v_place)]) → (∀ b, b ≠ p → H1 b = H b) → Q .non H1
theorem sc_Word_init : FnScope ["self", "signs", "place"] ["self", "signs", "place"] d_Word_init.scope := ⟨rfl, rfl, rfl, by decide +kernel, rfl, by decide +kernel, by decide +kernel⟩
theorem ok_Word_init (T : Fx K mg base) : Mk0 P w K mg base 1 "Word" (sp_Word_init K) := by
  obtain ⟨fd, F⟩ := F_Word_init T
  refine ⟨⟨_, fd, ["self", "signs", "place"], m_Word T, F.ok sc_Word_init (fun vs H Q E h => ?_) (fun cdv A outer s H vs Q E hr h => ⟨_, PSs.nox (pss_cons (ps_fld (pv 0) (pv 1) rfl) (pss_one (ps_fld (pv 0) (pv 2) rfl))), ?_⟩), g_Word T, F.bindsN (fun _ _ _ _ _ _ us hl => match us, hl with | [_, _, _], _ => rfl)⟩⟩
  · obtain ⟨p, dx, v_signs, v_place, rfl, _⟩ := h
    rfl
  · obtain ⟨p, dx, v_signs, v_place, rfl, hp, k⟩ := h
    refine ⟨_, rfl, _, rfl, p, _, dx, _, rfl, hp, c_Word T, n_Word_signs T, (by show 0 < 1000; decide), ?_⟩
    refine ⟨_, rfl, _, rfl, p, _, dx, _, rfl, upd_same, c_Word T, n_Word_place T, (by show 1 < 1000; decide), ?_⟩
    exact k _ upd_same fun b hb => by rw [upd_ne hb, upd_ne hb]
def sp_Line_init (K : PySem.W.Frag) : Sp := fun vs H Q _ => ∃ (p dx : Addr) (v_words v_behind : V), vs = [.ref p, v_words, v_behind] ∧ H p = some (.ins (He.ga K "Line") dx []) ∧ ∀ H1, H1 p = some (.ins (He.ga K "Line") dx [("words", v_words), ("behind", v_behind), ("taken", .int 0)]) → (∀ b, b ≠ p → H1 b = H b) → Q .non H1
theorem sc_Line_init : FnScope ["self", "words", "behind"] ["self", "words", "behind"] d_Line_init.scope := ⟨rfl, rfl, rfl, by decide +kernel, rfl, by decide +kernel, by decide +kernel⟩
theorem ok_Line_init (T : Fx K mg base) : Mk0 P w K mg base 1 "Line" (sp_Line_init K) := by
  obtain ⟨fd, F⟩ := F_Line_init T
  refine ⟨⟨_, fd, ["self", "words", "behind"], m_Line T, F.ok sc_Line_init (fun vs H Q E h => ?_) (fun cdv A outer s H vs Q E hr h => ⟨_, PSs.nox (pss_cons (ps_fld (pv 0) (pv 1) rfl) (pss_cons (ps_fld (pv 0) (pv 2) rfl) (pss_one (ps_fld (pv 0) (pe_int) rfl)))), ?_⟩), g_Line T, F.bindsN (fun _ _ _ _ _ _ us hl => match us, hl with | [_, _, _], _ => rfl)⟩⟩
  · obtain ⟨p, dx, v_words, v_behind, rfl, _⟩ := h
    rfl
  · obtain ⟨p, dx, v_words, v_behind, rfl, hp, k⟩ := h
    refine ⟨_, rfl, _, rfl, p, _, dx, _, rfl, hp, c_Line T, n_Line_words T, (by show 0 < 1000; decide), ?_⟩
    refine ⟨_, rfl, _, rfl, p, _, dx, _, rfl, upd_same, c_Line T, n_Line_behind T, (by show 1 < 1000; decide), ?_⟩
    refine ⟨_, rfl, p, _, dx, _, rfl, upd_same, c_Line T, n_Line_taken T, (by show 2 < 1000; decide), ?_⟩
    exact k _ upd_same fun b hb => by rw [upd_ne hb, upd_ne hb, upd_ne hb]
def sp_Place_init (K : PySem.W.Frag) : Sp := fun vs H Q _ => ∃ (p dx : Addr) (v_name v_handling : V), vs = [.ref p, v_name, v_handling] ∧ H p = some (.ins (He.ga K "Place") dx []) ∧ ∀ H1, H1 p = some (.ins (He.ga K "Place") dx [("name", v_name), ("handling", v_handling)]) → (∀ b, b ≠ p → H1 b = H b) → Q .non H1
theorem sc_Place_init : FnScope ["self", "name", "handling"] ["self", "name", "handling"] d_Place_init.scope := ⟨rfl, rfl, rfl, by decide +kernel, rfl, by decide +kernel, by decide +kernel⟩
theorem ok_Place_init (T : Fx K mg base) : Mk0 P w K mg base 1 "Place" (sp_Place_init K) := by
  obtain ⟨fd, F⟩ := F_Place_init T
  refine ⟨⟨_, fd, ["self", "name", "handling"], m_Place T, F.ok sc_Place_init (fun vs H Q E h => ?_) (fun cdv A outer s H vs Q E hr h => ⟨_, PSs.nox (pss_cons (ps_fld (pv 0) (pv 1) rfl) (pss_one (ps_fld (pv 0) (pv 2) rfl))), ?_⟩), g_Place T, F.bindsN (fun _ _ _ _ _ _ us hl => match us, hl with | [_, _, _], _ => rfl)⟩⟩
  · obtain ⟨p, dx, v_name, v_handling, rfl, _⟩ := h
    rfl
  · obtain ⟨p, dx, v_name, v_handling, rfl, hp, k⟩ := h
    refine ⟨_, rfl, _, rfl, p, _, dx, _, rfl, hp, c_Place T, n_Place_name T, (by show 0 < 1000; decide), ?_⟩
    refine ⟨_, rfl, _, rfl, p, _, dx, _, rfl, upd_same, c_Place T, n_Place_handling T, (by show 1 < 1000; decide), ?_⟩
    exact k _ upd_same fun b hb => by rw [upd_ne hb, upd_ne hb]
def sp_Car_init (K : PySem.W.Frag) : Sp := fun vs H Q _ => ∃ (p dx : Addr) (v_name v_origin v_end v_minutes : V), vs = [.ref p, v_name, v_origin, v_end, v_minutes] ∧ H p = some (.ins (He.ga K "Car") dx []) ∧ ∀ H1, H1 p = some (.ins (He.ga K "Car") dx [("name", v_name), ("origin", v_origin), ("end", v_end), ("minutes", v_minutes)]) → (∀ b, b ≠ p → H1 b = H b) → Q .non H1
theorem sc_Car_init : FnScope ["self", "name", "origin", "end", "minutes"] ["self", "name", "origin", "end", "minutes"] d_Car_init.scope := ⟨rfl, rfl, rfl, by decide +kernel, rfl, by decide +kernel, by decide +kernel⟩
theorem ok_Car_init (T : Fx K mg base) : Mk0 P w K mg base 1 "Car" (sp_Car_init K) := by
  obtain ⟨fd, F⟩ := F_Car_init T
  refine ⟨⟨_, fd, ["self", "name", "origin", "end", "minutes"], m_Car T, F.ok sc_Car_init (fun vs H Q E h => ?_) (fun cdv A outer s H vs Q E hr h => ⟨_, PSs.nox (pss_cons (ps_fld (pv 0) (pv 1) rfl) (pss_cons (ps_fld (pv 0) (pv 2) rfl) (pss_cons (ps_fld (pv 0) (pv 3) rfl) (pss_one (ps_fld (pv 0) (pv 4) rfl))))), ?_⟩), g_Car T, F.bindsN (fun _ _ _ _ _ _ us hl => match us, hl with | [_, _, _, _, _], _ => rfl)⟩⟩
  · obtain ⟨p, dx, v_name, v_origin, v_end, v_minutes, rfl, _⟩ := h
    rfl
  · obtain ⟨p, dx, v_name, v_origin, v_end, v_minutes, rfl, hp, k⟩ := h
    refine ⟨_, rfl, _, rfl, p, _, dx, _, rfl, hp, c_Car T, n_Car_name T, (by show 0 < 1000; decide), ?_⟩
    refine ⟨_, rfl, _, rfl, p, _, dx, _, rfl, upd_same, c_Car T, n_Car_origin T, (by show 1 < 1000; decide), ?_⟩
    refine ⟨_, rfl, _, rfl, p, _, dx, _, rfl, upd_same, c_Car T, n_Car_end T, (by show 2 < 1000; decide), ?_⟩
    refine ⟨_, rfl, _, rfl, p, _, dx, _, rfl, upd_same, c_Car T, n_Car_minutes T, (by show 3 < 1000; decide), ?_⟩
    exact k _ upd_same fun b hb => by rw [upd_ne hb, upd_ne hb, upd_ne hb, upd_ne hb]
def sp_Departure_init (K : PySem.W.Frag) : Sp := fun vs H Q _ => ∃ (p dx : Addr) (v_name v_origin v_leaves v_end v_comes : V), vs = [.ref p, v_name, v_origin, v_leaves, v_end, v_comes] ∧ H p = some (.ins (He.ga K "Departure") dx []) ∧ ∀ H1, H1 p = some (.ins (He.ga K "Departure") dx [("name", v_name), ("origin", v_origin), ("leaves", v_leaves), ("end", v_end), ("comes", v_comes)]) → (∀ b, b ≠ p → H1 b = H b) → Q .non H1
theorem sc_Departure_init : FnScope ["self", "name", "origin", "leaves", "end", "comes"] ["self", "name", "origin", "leaves", "end", "comes"] d_Departure_init.scope := ⟨rfl, rfl, rfl, by decide +kernel, rfl, by decide +kernel, by decide +kernel⟩
theorem ok_Departure_init (T : Fx K mg base) : Mk0 P w K mg base 1 "Departure" (sp_Departure_init K) := by
  obtain ⟨fd, F⟩ := F_Departure_init T
  refine ⟨⟨_, fd, ["self", "name", "origin", "leaves", "end", "comes"], m_Departure T, F.ok sc_Departure_init (fun vs H Q E h => ?_) (fun cdv A outer s H vs Q E hr h => ⟨_, PSs.nox (pss_cons (ps_fld (pv 0) (pv 1) rfl) (pss_cons (ps_fld (pv 0) (pv 2) rfl) (pss_cons (ps_fld (pv 0) (pv 3) rfl) (pss_cons (ps_fld (pv 0) (pv 4) rfl) (pss_one (ps_fld (pv 0) (pv 5) rfl)))))), ?_⟩), g_Departure T, F.bindsN (fun _ _ _ _ _ _ us hl => match us, hl with | [_, _, _, _, _, _], _ => rfl)⟩⟩
  · obtain ⟨p, dx, v_name, v_origin, v_leaves, v_end, v_comes, rfl, _⟩ := h
    rfl
  · obtain ⟨p, dx, v_name, v_origin, v_leaves, v_end, v_comes, rfl, hp, k⟩ := h
    refine ⟨_, rfl, _, rfl, p, _, dx, _, rfl, hp, c_Departure T, n_Departure_name T, (by show 0 < 1000; decide), ?_⟩
    refine ⟨_, rfl, _, rfl, p, _, dx, _, rfl, upd_same, c_Departure T, n_Departure_origin T, (by show 1 < 1000; decide), ?_⟩
    refine ⟨_, rfl, _, rfl, p, _, dx, _, rfl, upd_same, c_Departure T, n_Departure_leaves T, (by show 2 < 1000; decide), ?_⟩
    refine ⟨_, rfl, _, rfl, p, _, dx, _, rfl, upd_same, c_Departure T, n_Departure_end T, (by show 3 < 1000; decide), ?_⟩
    refine ⟨_, rfl, _, rfl, p, _, dx, _, rfl, upd_same, c_Departure T, n_Departure_comes T, (by show 4 < 1000; decide), ?_⟩
    exact k _ upd_same fun b hb => by rw [upd_ne hb, upd_ne hb, upd_ne hb, upd_ne hb, upd_ne hb]
def sp_Choice_init (K : PySem.W.Frag) : Sp := fun vs H Q _ => ∃ (p dx : Addr) (v_kind v_number : V), vs = [.ref p, v_kind, v_number] ∧ H p = some (.ins (He.ga K "Choice") dx []) ∧ ∀ H1, H1 p = some (.ins (He.ga K "Choice") dx [("kind", v_kind), ("number", v_number)]) → (∀ b, b ≠ p → H1 b = H b) → Q .non H1
theorem sc_Choice_init : FnScope ["self", "kind", "number"] ["self", "kind", "number"] d_Choice_init.scope := ⟨rfl, rfl, rfl, by decide +kernel, rfl, by decide +kernel, by decide +kernel⟩
theorem ok_Choice_init (T : Fx K mg base) : Mk0 P w K mg base 1 "Choice" (sp_Choice_init K) := by
  obtain ⟨fd, F⟩ := F_Choice_init T
  refine ⟨⟨_, fd, ["self", "kind", "number"], m_Choice T, F.ok sc_Choice_init (fun vs H Q E h => ?_) (fun cdv A outer s H vs Q E hr h => ⟨_, PSs.nox (pss_cons (ps_fld (pv 0) (pv 1) rfl) (pss_one (ps_fld (pv 0) (pv 2) rfl))), ?_⟩), g_Choice T, F.bindsN (fun _ _ _ _ _ _ us hl => match us, hl with | [_, _, _], _ => rfl)⟩⟩
  · obtain ⟨p, dx, v_kind, v_number, rfl, _⟩ := h
    rfl
  · obtain ⟨p, dx, v_kind, v_number, rfl, hp, k⟩ := h
    refine ⟨_, rfl, _, rfl, p, _, dx, _, rfl, hp, c_Choice T, n_Choice_kind T, (by show 0 < 1000; decide), ?_⟩
    refine ⟨_, rfl, _, rfl, p, _, dx, _, rfl, upd_same, c_Choice T, n_Choice_number T, (by show 1 < 1000; decide), ?_⟩
    exact k _ upd_same fun b hb => by rw [upd_ne hb, upd_ne hb]
def sp_Call_init (K : PySem.W.Frag) : Sp := fun vs H Q _ => ∃ (p dx : Addr) (v_kind v_numbers v_rows v_behind : V), vs = [.ref p, v_kind, v_numbers, v_rows, v_behind] ∧ H p = some (.ins (He.ga K "Call") dx []) ∧ ∀ H1, H1 p = some (.ins (He.ga K "Call") dx [("kind", v_kind), ("numbers", v_numbers), ("rows", v_rows), ("behind", v_behind)]) → (∀ b, b ≠ p → H1 b = H b) → Q .non H1
theorem sc_Call_init : FnScope ["self", "kind", "numbers", "rows", "behind"] ["self", "kind", "numbers", "rows", "behind"] d_Call_init.scope := ⟨rfl, rfl, rfl, by decide +kernel, rfl, by decide +kernel, by decide +kernel⟩
theorem ok_Call_init (T : Fx K mg base) : Mk0 P w K mg base 1 "Call" (sp_Call_init K) := by
  obtain ⟨fd, F⟩ := F_Call_init T
  refine ⟨⟨_, fd, ["self", "kind", "numbers", "rows", "behind"], m_Call T, F.ok sc_Call_init (fun vs H Q E h => ?_) (fun cdv A outer s H vs Q E hr h => ⟨_, PSs.nox (pss_cons (ps_fld (pv 0) (pv 1) rfl) (pss_cons (ps_fld (pv 0) (pv 2) rfl) (pss_cons (ps_fld (pv 0) (pv 3) rfl) (pss_one (ps_fld (pv 0) (pv 4) rfl))))), ?_⟩), g_Call T, F.bindsN (fun _ _ _ _ _ _ us hl => match us, hl with | [_, _, _, _, _], _ => rfl)⟩⟩
  · obtain ⟨p, dx, v_kind, v_numbers, v_rows, v_behind, rfl, _⟩ := h
    rfl
  · obtain ⟨p, dx, v_kind, v_numbers, v_rows, v_behind, rfl, hp, k⟩ := h
    refine ⟨_, rfl, _, rfl, p, _, dx, _, rfl, hp, c_Call T, n_Call_kind T, (by show 0 < 1000; decide), ?_⟩
    refine ⟨_, rfl, _, rfl, p, _, dx, _, rfl, upd_same, c_Call T, n_Call_numbers T, (by show 1 < 1000; decide), ?_⟩
    refine ⟨_, rfl, _, rfl, p, _, dx, _, rfl, upd_same, c_Call T, n_Call_rows T, (by show 2 < 1000; decide), ?_⟩
    refine ⟨_, rfl, _, rfl, p, _, dx, _, rfl, upd_same, c_Call T, n_Call_behind T, (by show 3 < 1000; decide), ?_⟩
    exact k _ upd_same fun b hb => by rw [upd_ne hb, upd_ne hb, upd_ne hb, upd_ne hb]
end
end SJ
end
section
set_option Elab.async false
set_option linter.all false
set_option maxRecDepth 100000
set_option maxHeartbeats 4000000
namespace SJ
open PySem PySem.Spec PyProof.Rows L2
section
variable {P : Program} {w : World} {K : PySem.W.Frag} {mg : Str → Option Value} {base : Heap}
/-- the number lies outside -/
def Out (a b c : Int) : Prop := a < b ∨ c < a
instance (a b c : Int) : Decidable (Out a b c) := inferInstanceAs (Decidable (_ ∨ _))
abbrev cNot (K : PySem.W.Frag) : Value := .ref (He.ga K "NotAsTold")
def sp_need_between (K : PySem.W.Frag) : Sp := fun vs H Q E => ∃ a b c : Int, vs = [.int a, .int b, .int c] ∧ (Out a b c → E (cNot K) none H) ∧ (¬ Out a b c → Q .non H)
theorem sc_need_between : FnScope ["number", "least", "most"] ["number", "least", "most"] d_need_between.scope := ⟨rfl, rfl, rfl, by decide +kernel, rfl, by decide +kernel, by decide +kernel⟩
theorem ok_need_between (T : Fx K mg base) : FnX P w K mg base 1 "need_between" (sp_need_between K) := by
  obtain ⟨fd, F⟩ := F_need_between T
  refine ⟨⟨_, fd, ["number", "least", "most"], F.ok sc_need_between (fun vs H Q E h => ?_) (fun cdv A outer s H vs Q E hr h => ⟨_, pss_one (ps_if (PW.pt (pw_or (pt_cmpR op_lt (pv 0) (pv 1) (nomark _)) (pw_or1 (pt_cmpR op_gt (pv 0) (pv 2) (nomark _))))) (pss_one (ps_raise0 rfl (T.exc rfl (g_NotAsTold T)) (takes_of rfl rfl rfl rfl) rfl)) (pss_nil)), ?_⟩), g_need_between T, F.kp, F.bindsN (fun _ _ _ _ _ _ us hl => match us, hl with | [_, _, _], _ => rfl)⟩⟩
  · obtain ⟨a, b, c, rfl, _⟩ := h
    rfl
  · obtain ⟨a, b, c, rfl, h1, h2⟩ := h
    refine ⟨_, rfl, _, rfl, _, _, rfl, rfl, _, rfl, ?_⟩
    by_cases l : a < b
    · exact ifT (decide_eq_true l) (iteT (h1 (.inl l)))
    · refine ifF (decide_eq_false l) ⟨_, rfl, _, rfl, _, _, rfl, rfl, _, rfl, ?_⟩
      by_cases r : c < a
      · exact ifT (decide_eq_true r) (h1 (.inr r))
      · exact ifF (decide_eq_false r) (h2 (by unfold Out; omega))
/-- a row as told: not too long, its numbers from 0 to a highest -/
def RowOk (ns : List Int) (most highest : Int) : Prop := (ns.length : Int) ≤ most ∧ ∀ x ∈ ns, 0 ≤ x ∧ x ≤ highest
def sp_need_row (K : PySem.W.Frag) : Sp := fun vs H Q E => ∃ (a : Addr) (ns : List Int) (most highest : Int), vs = [.ref a, .int most, .int highest] ∧ SqL K H a (ns.map V.int) ∧ (¬ RowOk ns most highest → E (cNot K) none H) ∧ (RowOk ns most highest → Q .non H)
theorem sc_need_row : FnScope ["row", "longest", "highest", "number"] ["row", "longest", "highest"] d_need_row.scope := ⟨rfl, rfl, rfl, by decide +kernel, rfl, by decide +kernel, by decide +kernel⟩
theorem ok_need_row (T : Fx K mg base) : FnX P w K mg base 2 "need_row" (sp_need_row K) := by
  obtain ⟨fd, F⟩ := F_need_row T
  refine ⟨⟨_, fd, ["row", "longest", "highest"], F.ok sc_need_row (fun vs H Q E h => ?_) (fun cdv A outer s H vs Q E hr h => ⟨_, pss_cons (ps_expr (pe_cx (ok_need_between T) hr (by decide) rfl (takes_of rfl rfl rfl rfl) (pa_cons (pe_callB call_len_seq (by rfl) (b_len T) (by decide +kernel) (pa_cons (pv 0) pa_nil)) (pa_cons (pe_int) (pa_cons (pv 1) pa_nil))))) (pss_one (ps_for (passes_of rfl) rfl (pi_list (pv 0)) (pg_name (i := 3) sc_need_row.nd rfl (Or.inl rfl)) (pss_one (ps_expr (pe_cx (ok_need_between T) hr (by decide) rfl (takes_of rfl rfl rfl rfl) (pa_cons (pv 3) (pa_cons (pe_int) (pa_cons (pv 2) pa_nil)))))))), ?_⟩), g_need_row T, F.kp, F.bindsN (fun _ _ _ _ _ _ us hl => match us, hl with | [_, _, _], _ => rfl)⟩⟩
  · obtain ⟨a, ns, m, hi, rfl, _⟩ := h
    rfl
  · obtain ⟨a, ns, m, hi, rfl, hS, h1, h2⟩ := h
    refine ⟨_, rfl, a, _, rfl, .inl hS, _, rfl, ((ns.map V.int).length : Int), 0, m, rfl, fun o => h1 fun r => ?_, fun no => ?_⟩
    · have := r.1
      rw [List.length_map] at o
      unfold Out at o
      omega
    · rw [List.length_map] at no
      refine ⟨_, rfl, a, rfl, ⟨_, hS⟩, for_it (walk_list (xs := ns.map V.int)) (fun i σ H' => ∃ v, σ = [some (.ref a), some (.int m), some (.int hi), v] ∧ H' = H ∧ ∀ x ∈ ns.take i, 0 ≤ x ∧ x ≤ hi) ⟨none, rfl, rfl, by simp⟩ (fun i σ H' _ ⟨_, _, e, _⟩ => e ▸ hS) ?_ ?_⟩
      · rintro i x σ H1 H2 hi2 ⟨v, rfl, rfl, ha⟩ ⟨rfl, hx⟩
        rw [List.getElem?_map] at hx
        obtain ⟨z, hz, rfl⟩ := Option.map_eq_some_iff.mp hx
        refine ⟨_, rfl, _, rfl, z, 0, hi, rfl, fun o => h1 fun r => ?_, fun no2 => ⟨some (.int z), rfl, rfl, fun y hy => ?_⟩⟩
        · have := r.2 z (List.mem_of_getElem? hz)
          unfold Out at o
          omega
        · rw [List.take_add_one, hz] at hy
          rcases List.mem_append.mp hy with hy | hy
          · exact ha y hy
          · have : y = z := by simpa using hy
            rw [this]
            unfold Out at no2
            omega
      · rintro σ H1 ⟨v, rfl, rfl, ha⟩
        rw [List.length_map, List.take_length] at ha
        refine h2 ⟨?_, ha⟩
        unfold Out at no
        omega
end
end SJ
end
section
set_option Elab.async false
set_option linter.all false
set_option maxRecDepth 100000
set_option maxHeartbeats 4000000
/-! Lines and words as objects. -/
namespace SJ
open PySem PySem.Spec PyProof.Rows L2
/-! ## what stands where -/
def nv (l : List Nat) : List V := l.map fun (n : Nat) => V.int n
/-- all but what stands at S is as it was -/
def Keeps (S : List Addr) (H H' : Hp) : Prop := ∀ b o, b ∉ S → H b = some o → H' b = some o
theorem Keeps.refl (S : List Addr) (H : Hp) : Keeps S H H := fun _ _ _ h => h
theorem Keeps.trans {S : List Addr} {H H1 H2 : Hp} (a : Keeps S H H1) (b : Keeps S H1 H2) : Keeps S H H2 := fun c o n h => b c o n (a c o n h)
theorem Keeps.mono {S S' : List Addr} {H H' : Hp} (a : Keeps S H H') (h : ∀ b ∈ S, b ∈ S') : Keeps S' H H' := fun b o n e => a b o (fun m => n (h b m)) e
theorem Keeps.same {H H' : Hp} (a : Keeps [] H H') : Same H H' := fun b o e => a b o (by simp) e
theorem Same.keeps {S : List Addr} {H H' : Hp} (a : Same H H') : Keeps S H H' := fun b o _ e => a b o e
theorem same_new {H : Hp} {p : Addr} {o : HO} (h : H p = none) : Same H (upd H p o) := fun b u e => by
  rw [upd_ne (ne_of_none e h)]
  exact e
section
variable (K : PySem.W.Frag)
def WordAt (N : Addr → Prop) (H : Hp) (a : Addr) (w : Vbbtaa.Word) : Prop := ∃ dx sg, H a = some (.ins (He.ga K "Word") dx [("signs", .ref sg), ("place", .int w.at_)]) ∧ H sg = some (.lst (nv w.text)) ∧ N sg
def LineAt (N : Addr → Prop) (H : Hp) (a : Addr) (ws : List Vbbtaa.Word) (be k : Nat) : Prop := ∃ dx lw xs, H a = some (.ins (He.ga K "Line") dx [("words", .ref lw), ("behind", .int be), ("taken", .int k)]) ∧ H lw = some (.lst xs) ∧ N lw ∧ xs.length = ws.length ∧
  ∀ (i : Nat) w, ws[i]? = some w → ∃ b, xs[i]? = some (.ref b) ∧ WordAt K N H b w
/-- what's still to be read of the line at a -/
def RestAt (N : Addr → Prop) (H : Hp) (a : Addr) (r : Vbbtaa.Rest) : Prop := ∃ ws k, LineAt K N H a ws r.halt_ k ∧ k ≤ ws.length ∧ r.words = ws.drop k
/-- a fault goes out -/
def OutF (S : List Addr) (H : Hp) (E : XK) (e : Vbbtaa.Fault) : Prop := ∀ H' d, Keeps S H H' → H' d = some (.xd (faultF (.int e.kind) (.int e.at_))) → E (.ref (He.ga K "TextFault")) (some d) H'
end
section
variable {K : PySem.W.Frag} {N : Addr → Prop}
theorem WordAt.keep {S : List Addr} {H H' : Hp} {a : Addr} {w : Vbbtaa.Word} (h : WordAt K N H a w) (k : Same H H') : WordAt K N H' a w := let ⟨dx, sg, e1, e2, e3⟩ := h; ⟨dx, sg, k _ _ e1, k _ _ e2, e3⟩
/-- an instance of another kind is elsewhere -/
theorem WordAt.put {H H' : Hp} {a c : Addr} {w : Vbbtaa.Word} {C dx : Addr} {fs : List (Str × V)} (h : WordAt K N H a w) (hc : H c = some (.ins C dx fs)) (ne : c ≠ a) (k : ∀ b, b ≠ c → H' b = H b) : WordAt K N H' a w := by
  obtain ⟨dx, sg, e1, e2, e3⟩ := h
  refine ⟨dx, sg, by rw [k _ ne.symm]; exact e1, ?_, e3⟩
  rw [k]
  · exact e2
  · rintro rfl
    rw [hc] at e2
    cases e2
end
section
variable {P : Program} {w : World} {K : PySem.W.Frag} {mg : Str → Option Value} {base : Heap}
def sp_Line_has_more (K : PySem.W.Frag) : Sp := fun vs H Q _ => ∃ (N : Addr → Prop) (a : Addr) (ws : List Vbbtaa.Word) (be k : Nat), vs = [.ref a] ∧ LineAt K N H a ws be k ∧ Q (.bl (decide (k < ws.length))) H
theorem sc_Line_has_more : FnScope ["self"] ["self"] d_Line_has_more.scope := ⟨rfl, rfl, rfl, by decide +kernel, rfl, by decide +kernel, by decide +kernel⟩
theorem ok_Line_has_more (T : Fx K mg base) : Mt0 P w K mg base 1 "Line" "has_more" (sp_Line_has_more K) := by
  obtain ⟨fd, F⟩ := F_Line_has_more T
  refine ⟨⟨_, fd, ["self"], c_Line T, m_Line_has_more T, F.ok sc_Line_has_more (fun vs H Q E h => ?_) (fun cdv A outer s H vs Q E hr h => ⟨_, PSs.nox (pss_one (ps_ret (pe_cmpR op_lt (pe_fld (pv 0) rfl) (pe_callB call_len_seq (by rfl) (b_len T) (by decide +kernel) (pa_cons (pe_fld (pv 0) rfl) pa_nil)) (nomark _)))), ?_⟩), F.bindsN (fun _ _ _ _ _ _ us hl => match us, hl with | [_], _ => rfl)⟩⟩
  · obtain ⟨N, a, ws, be, k, rfl, _⟩ := h
    rfl
  · obtain ⟨N, a, ws, be, k, rfl, ⟨dx, lw, xs, e1, e2, eN, e3, _⟩, q⟩ := h
    refine ⟨_, rfl, a, _, dx, _, _, rfl, e1, c_Line T, n_Line_taken T, rfl, _, rfl, a, _, dx, _, _, rfl, e1, c_Line T, n_Line_words T, rfl, lw, _, rfl, .inl (SqL.of e2), _, _, rfl, rfl, ?_⟩
    show Q (.bl (decide ((k : Int) < (xs.length : Int)))) H
    have e : decide ((k : Int) < (xs.length : Int)) = decide (k < ws.length) := by
      rw [e3]
      exact decide_eq_decide.mpr Int.ofNat_lt
    rw [e]
    exact q
def sp_Line_take (K : PySem.W.Frag) : Sp := fun vs H Q E => ∃ (N : Addr → Prop) (a : Addr) (r : Vbbtaa.Rest), vs = [.ref a] ∧ RestAt K N H a r ∧ (r.words = [] → OutF K [] H E ⟨1, r.halt_⟩) ∧
  ∀ x l, r.words = x :: l → ∀ b H1, WordAt K N H1 b x → RestAt K N H1 a { r with words := l } → (∀ c, c ≠ a → H1 c = H c) → Q (.ref b) H1
theorem sc_Line_take : FnScope ["self", "word"] ["self"] d_Line_take.scope := ⟨rfl, rfl, rfl, by decide +kernel, rfl, by decide +kernel, by decide +kernel⟩
theorem ok_Line_take (T : Fx K mg base) : MtX P w K mg base 3 "Line" "take" (sp_Line_take K) := by
  obtain ⟨fd, F⟩ := F_Line_take T
  refine ⟨⟨_, fd, ["self"], c_Line T, m_Line_take T, F.ok sc_Line_take (fun vs H Q E h => ?_) (fun cdv A outer s H vs Q E hr h => ⟨_, pss_cons (ps_if (pt_not (pt_val (pe_m00 (ok_Line_has_more T) hr (by decide) (pv 0)))) (pss_one (ps_raiseTextFault rfl (T.TextFault) hr (takes_of rfl rfl rfl rfl) (pa_cons (C8.pe_gc rfl (i_WRONG_WORD T)) (pa_cons (pe_fld (pv 0) rfl) pa_nil)))) (pss_nil)) (pss_cons (ps_set (i := 1) sc_Line_take.nd rfl (Or.inl rfl) (pe_ix ix_list (pe_fld (pv 0) rfl) (pe_fld (pv 0) rfl) (fun _ _ => rfl))) (pss_cons (ps_fldaug (pv 0) (pe_int) in_add) (pss_one (ps_ret (pv 1))))), ?_⟩), F.bindsN (fun _ _ _ _ _ _ us hl => match us, hl with | [_], _ => rfl)⟩⟩
  · obtain ⟨N, a, r, rfl, _⟩ := h
    rfl
  · obtain ⟨N, a, r, rfl, ⟨ws, k, L, hk, ew⟩, kN, kS⟩ := h
    obtain ⟨dx, lw, xs, e1, e2, eN, e3, e4⟩ := id L
    refine ⟨_, rfl, a, dx, _, rfl, e1, rfl, N, a, ws, r.halt_, k, rfl, L, _, rfl, ?_⟩
    by_cases c : k < ws.length
    · rw [decide_eq_true c]
      obtain ⟨b, eb, hw⟩ := e4 k ws[k] (List.getElem?_eq_getElem c)
      refine iteF ⟨_, rfl, a, _, dx, _, _, rfl, e1, c_Line T, n_Line_words T, rfl, _, rfl, a, _, dx, _, _, rfl, e1, c_Line T, n_Line_taken T, rfl, lw, xs, (k : Int), .ref b, rfl, rfl, SqL.of e2, atI_nat eb, ?_⟩
      refine ⟨_, rfl, a, _, dx, _, _, rfl, e1, c_Line T, n_Line_taken T, rfl, _, _, rfl, rfl, ?_⟩
      refine ⟨dx, _, e1, (by show 3 < 1000; decide), _, rfl, ?_⟩
      have here : (upd H a (.ins (He.ga K "Line") dx [("words", .ref lw), ("behind", .int r.halt_), ("taken", .int ((k : Int) + 1))])) a = _ := upd_same
      have nb : a ≠ b := by
        rintro rfl
        obtain ⟨_, _, z, _⟩ := hw
        rw [e1] at z
        have := (HO.ins.inj (Option.some.inj z)).2.2
        have := congrArg List.length this
        cases this
      have el : ws.drop k = ws[k] :: ws.drop (k + 1) := List.drop_eq_getElem_cons c
      have stays : ∀ c, c ≠ a → (upd H a (.ins (He.ga K "Line") dx (putF "taken" (.int ((k : Int) + 1)) [("words", .ref lw), ("behind", .int r.halt_), ("taken", .int k)]))) c = H c := fun c hc => upd_ne hc
      have lwa : lw ≠ a := by
        rintro rfl
        rw [e1] at e2
        cases e2
      refine kS ws[k] (ws.drop (k + 1)) (by rw [ew, el]) b _ (hw.put e1 nb stays) ⟨ws, k + 1, ⟨dx, lw, xs, upd_same, by rw [stays lw lwa]; exact e2, eN, e3, fun i w0 hw0 => ?_⟩, c, rfl⟩ stays
      obtain ⟨b', eb', hw'⟩ := e4 i w0 hw0
      refine ⟨b', eb', hw'.put e1 ?_ stays⟩
      rintro rfl
      obtain ⟨_, _, z, _⟩ := hw'
      rw [e1] at z
      have := congrArg List.length (HO.ins.inj (Option.some.inj z)).2.2
      cases this
    · rw [decide_eq_false c]
      have hz : r.words = [] := by rw [ew]; exact List.drop_eq_nil_of_le (by omega)
      refine iteT ⟨_, rfl, a, _, dx, _, _, rfl, e1, c_Line T, n_Line_behind T, rfl, _, _, rfl, fun d hd => ?_⟩
      exact kN hz _ d (Same.keeps (same_new hd)) upd_same
end
end SJ
end
section
set_option Elab.async false
set_option linter.all false
set_option maxRecDepth 100000
set_option maxHeartbeats 4000000
namespace SJ
open PySem PySem.Spec PyProof.Rows L2
section
variable {P : Program} {w : World} {K : PySem.W.Frag} {mg : Str → Option Value} {base : Heap}
def sp_Line_close (K : PySem.W.Frag) : Sp := fun vs H Q E => ∃ (N : Addr → Prop) (a : Addr) (r : Vbbtaa.Rest), vs = [.ref a] ∧ RestAt K N H a r ∧ (r.words = [] → Q .non H) ∧ ∀ x l, r.words = x :: l → OutF K [] H E ⟨1, x.at_⟩
theorem sc_Line_close : FnScope ["self"] ["self"] d_Line_close.scope := ⟨rfl, rfl, rfl, by decide +kernel, rfl, by decide +kernel, by decide +kernel⟩
theorem ok_Line_close (T : Fx K mg base) : MtX P w K mg base 3 "Line" "close" (sp_Line_close K) := by
  obtain ⟨fd, F⟩ := F_Line_close T
  refine ⟨⟨_, fd, ["self"], c_Line T, m_Line_close T, F.ok sc_Line_close (fun vs H Q E h => ?_) (fun cdv A outer s H vs Q E hr h => ⟨_, pss_one (ps_if (pt_val (pe_m00 (ok_Line_has_more T) hr (by decide) (pv 0))) (pss_one (ps_raiseTextFault rfl (T.TextFault) hr (takes_of rfl rfl rfl rfl) (pa_cons (C8.pe_gc rfl (i_WRONG_WORD T)) (pa_cons (pe_fld (pe_ix ix_list (pe_fld (pv 0) rfl) (pe_fld (pv 0) rfl) (fun _ _ => rfl)) rfl) pa_nil)))) (pss_nil)), ?_⟩), F.bindsN (fun _ _ _ _ _ _ us hl => match us, hl with | [_], _ => rfl)⟩⟩
  · obtain ⟨N, a, r, rfl, _⟩ := h
    rfl
  · obtain ⟨N, a, r, rfl, ⟨ws, k, L, hk, ew⟩, kN, kS⟩ := h
    obtain ⟨dx, lw, xs, e1, e2, eN, e3, e4⟩ := id L
    refine ⟨_, rfl, a, dx, _, rfl, e1, rfl, N, a, ws, r.halt_, k, rfl, L, _, rfl, ?_⟩
    by_cases c : k < ws.length
    · rw [decide_eq_true c]
      obtain ⟨b, eb, dxb, sg, eb1, eb2, _⟩ := e4 k ws[k] (List.getElem?_eq_getElem c)
      have el : ws.drop k = ws[k] :: ws.drop (k + 1) := List.drop_eq_getElem_cons c
      refine iteT ⟨_, rfl, a, _, dx, _, _, rfl, e1, c_Line T, n_Line_words T, rfl, _, rfl, a, _, dx, _, _, rfl, e1, c_Line T, n_Line_taken T, rfl, lw, xs, (k : Int), .ref b, rfl, rfl, SqL.of e2, atI_nat eb, b, _, dxb, _, _, rfl, eb1, c_Word T, n_Word_place T, rfl, _, _, rfl, fun d hd => ?_⟩
      exact kS _ _ (by rw [ew, el]) _ d (Same.keeps (same_new hd)) upd_same
    · rw [decide_eq_false c]
      exact iteF (kN (by rw [ew]; exact List.drop_eq_nil_of_le (by omega)))
def sp_is_letter : Sp := fun vs H Q _ => ∃ n : Nat, vs = [.int n] ∧ Q (.bl (Vbbtaa.isSmall n)) H
theorem sc_is_letter : FnScope ["sign"] ["sign"] d_is_letter.scope := ⟨rfl, rfl, rfl, by decide +kernel, rfl, by decide +kernel, by decide +kernel⟩
theorem ok_is_letter (T : Fx K mg base) : Fn0 P w K mg base 1 "is_letter" sp_is_letter := by
  obtain ⟨fd, F⟩ := F_is_letter T
  refine ⟨⟨_, fd, ["sign"], F.ok sc_is_letter (fun vs H Q E h => ?_) (fun cdv A outer s H vs Q E hr h => ⟨_, PSs.nox (pss_one (ps_ret (pe_and (pe_cmpR op_le (C8.pe_gc rfl (i_SMALL_A T)) (pv 0) (nomark _)) (pe_one (pe_cmpR op_le (pv 0) (C8.pe_gc rfl (i_SMALL_Z T)) (nomark _)))))), ?_⟩), g_is_letter T, F.kp, F.bindsN (fun _ _ _ _ _ _ us hl => match us, hl with | [_], _ => rfl)⟩⟩
  · obtain ⟨n, rfl, _⟩ := h
    rfl
  · obtain ⟨n, rfl, q⟩ := h
    refine ⟨_, rfl, _, _, rfl, rfl, _, rfl, ?_⟩
    by_cases c : (97 : Int) ≤ n
    · refine ifT (decide_eq_true c) ⟨_, rfl, _, _, rfl, rfl, ?_⟩
      have e : Vbbtaa.isSmall n = decide ((n : Int) ≤ 122) := by
        unfold Vbbtaa.isSmall
        rw [decide_eq_true (show 97 ≤ n by omega), Bool.true_and]
        exact decide_eq_decide.mpr (by omega)
      rw [e] at q
      exact q
    · refine ifF (decide_eq_false c) ?_
      have e : Vbbtaa.isSmall n = false := by
        unfold Vbbtaa.isSmall
        rw [decide_eq_false (show ¬ 97 ≤ n by omega), Bool.false_and]
      rw [e] at q
      exact q
def sp_is_digit : Sp := fun vs H Q _ => ∃ n : Nat, vs = [.int n] ∧ Q (.bl (Vbbtaa.isDigit n)) H
theorem sc_is_digit : FnScope ["sign"] ["sign"] d_is_digit.scope := ⟨rfl, rfl, rfl, by decide +kernel, rfl, by decide +kernel, by decide +kernel⟩
theorem ok_is_digit (T : Fx K mg base) : Fn0 P w K mg base 1 "is_digit" sp_is_digit := by
  obtain ⟨fd, F⟩ := F_is_digit T
  refine ⟨⟨_, fd, ["sign"], F.ok sc_is_digit (fun vs H Q E h => ?_) (fun cdv A outer s H vs Q E hr h => ⟨_, PSs.nox (pss_one (ps_ret (pe_and (pe_cmpR op_le (C8.pe_gc rfl (i_DIGIT_0 T)) (pv 0) (nomark _)) (pe_one (pe_cmpR op_le (pv 0) (C8.pe_gc rfl (i_DIGIT_9 T)) (nomark _)))))), ?_⟩), g_is_digit T, F.kp, F.bindsN (fun _ _ _ _ _ _ us hl => match us, hl with | [_], _ => rfl)⟩⟩
  · obtain ⟨n, rfl, _⟩ := h
    rfl
  · obtain ⟨n, rfl, q⟩ := h
    refine ⟨_, rfl, _, _, rfl, rfl, _, rfl, ?_⟩
    by_cases c : (48 : Int) ≤ n
    · refine ifT (decide_eq_true c) ⟨_, rfl, _, _, rfl, rfl, ?_⟩
      have e : Vbbtaa.isDigit n = decide ((n : Int) ≤ 57) := by
        unfold Vbbtaa.isDigit
        rw [decide_eq_true (show 48 ≤ n by omega), Bool.true_and]
        exact decide_eq_decide.mpr (by omega)
      rw [e] at q
      exact q
    · refine ifF (decide_eq_false c) ?_
      have e : Vbbtaa.isDigit n = false := by
        unfold Vbbtaa.isDigit
        rw [decide_eq_false (show ¬ 48 ≤ n by omega), Bool.false_and]
      rw [e] at q
      exact q
theorem nv_len (t : List Nat) : (nv t).length = t.length := List.length_map _
theorem nv_get {t : List Nat} {i : Nat} {v : V} (h : (nv t)[i]? = some v) : ∃ n, t[i]? = some n ∧ v = .int (n : Nat) := by
  unfold nv at h
  rw [List.getElem?_map] at h
  obtain ⟨n, e, rfl⟩ := Option.map_eq_some_iff.mp h
  exact ⟨n, e, rfl⟩
def sp_number_told (K : PySem.W.Frag) : Sp := fun vs H Q _ => ∃ (a : Addr) (t : List Nat), vs = [.ref a] ∧ SqL K H a (nv t) ∧ t.all Vbbtaa.isDigit = true ∧ Q (.int (Vbbtaa.valueOf t : Nat)) H
theorem sc_number_told : FnScope ["signs", "number", "sign"] ["signs"] d_number_told.scope := ⟨rfl, rfl, rfl, by decide +kernel, rfl, by decide +kernel, by decide +kernel⟩
theorem ok_number_told (T : Fx K mg base) : Fn0 P w K mg base 1 "number_told" (sp_number_told K) := by
  obtain ⟨fd, F⟩ := F_number_told T
  refine ⟨⟨_, fd, ["signs"], F.ok sc_number_told (fun vs H Q E h => ?_) (fun cdv A outer s H vs Q E hr h => ⟨_, PSs.nox (pss_cons (ps_set (i := 1) sc_number_told.nd rfl (Or.inl rfl) (pe_int)) (pss_cons (ps_for PassesOwn.never rfl (pi_list (pv 0)) (pg_name (i := 2) sc_number_told.nd rfl (Or.inl rfl)) (pss_one (ps_set (i := 1) sc_number_told.nd rfl (Or.inl rfl) (pe_op op_sub (pe_op op_add (pe_op op_mul (pv 1) (pe_int)) (pv 2)) (C8.pe_gc rfl (i_DIGIT_0 T)))))) (pss_one (ps_ret (pv 1))))), ?_⟩), g_number_told T, F.kp, F.bindsN (fun _ _ _ _ _ _ us hl => match us, hl with | [_], _ => rfl)⟩⟩
  · obtain ⟨a, t, rfl, _⟩ := h
    rfl
  · obtain ⟨a, t, rfl, hS, hd, q⟩ := h
    refine ⟨_, rfl, a, rfl, ⟨_, hS⟩, for_it (walk_list (xs := nv t)) (fun i σ H' => ∃ v, σ = [some (.ref a), some (.int (Vbbtaa.valueOf (t.take i) : Nat)), v] ∧ H' = H) ⟨none, rfl, rfl⟩ (fun i σ H' _ ⟨_, _, e⟩ => e ▸ hS) ?_ ?_⟩
    · rintro i x σ H1 H2 hi ⟨v, rfl, rfl⟩ ⟨rfl, hx⟩
      obtain ⟨n, hn, rfl⟩ := nv_get hx
      have dg := List.all_eq_true.mp hd n (List.mem_of_getElem? hn)
      have lo : 48 ≤ n := by
        unfold Vbbtaa.isDigit at dg
        rw [Bool.and_eq_true] at dg
        exact of_decide_eq_true dg.1
      refine ⟨_, rfl, _, _, rfl, rfl, .inr ⟨by decide, by decide⟩, _, rfl, _, _, rfl, rfl, _, _, rfl, rfl, some (.int n), ?_, rfl⟩
      have e : (Vbbtaa.valueOf (t.take (i + 1)) : Int) = (Vbbtaa.valueOf (t.take i) : Int) * 10 + (n : Int) - 48 := by
        rw [List.take_add_one, hn]
        unfold Vbbtaa.valueOf
        rw [Option.toList_some, List.foldl_append, List.foldl_cons, List.foldl_nil]
        omega
      rw [e]
      rfl
    · rintro σ H1 ⟨v, rfl, rfl⟩
      rw [nv_len, List.take_length]
      exact ⟨_, rfl, q⟩
end
end SJ
end
section
set_option Elab.async false
set_option linter.all false
set_option maxRecDepth 100000
set_option maxHeartbeats 4000000
namespace SJ
open PySem PySem.Spec PyProof.Rows L2
section
variable {P : Program} {w : World} {K : PySem.W.Frag} {mg : Str → Option Value} {base : Heap}
/-- a comprehension without a test -/
theorem lcYes {A B : Hp → Prop} {r : L2.St} {H : Hp} (h : A H) : tYes r H (fun b H3 => if b = true then A H3 else B H3) := by
  show if true = true then A H else B H
  rw [if_pos rfl]
  exact h
theorem same_upd {H H1 : Hp} {D : Addr} {o : HO} (hD : H D = none) (h : Same H H1) : Same H (upd H1 D o) := fun b u e => by
  rw [upd_ne (ne_of_none e hD)]
  exact h b u e
def sp_is_name (K : PySem.W.Frag) : Sp := fun vs H Q _ => ∃ (a : Addr) (t : List Nat), vs = [.ref a] ∧ SqL K H a (nv t) ∧ ∀ H1, Same H H1 → Q (.bl (Vbbtaa.isName t)) H1
theorem sc_is_name : FnScope ["signs", "sign"] ["signs"] d_is_name.scope := ⟨rfl, rfl, rfl, by decide +kernel, rfl, by decide +kernel, by decide +kernel⟩
theorem ok_is_name (T : Fx K mg base) : Fn0 P w K mg base 2 "is_name" (sp_is_name K) := by
  obtain ⟨fd, F⟩ := F_is_name T
  refine ⟨⟨_, fd, ["signs"], F.ok sc_is_name (fun vs H Q E h => ?_) (fun cdv A outer s H vs Q E hr h => ⟨_, PSs.nox (pss_cons (ps_if (PW.pt (pw_or (pt_cmpR op_eq (pe_callB call_len_seq (by rfl) (b_len T) (by decide +kernel) (pa_cons (pv 0) pa_nil)) (pe_int) (nomark _)) (pw_or (pt_cmpR op_gt (pe_callB call_len_seq (by rfl) (b_len T) (by decide +kernel) (pa_cons (pv 0) pa_nil)) (C8.pe_gc rfl (i_LONGEST_NAME T)) (nomark _)) (pw_or1 (pt_not (pt_val (pe_c0 (ok_is_letter T) hr (by decide) rfl (pa_cons (pe_ix ix_list (pv 0) (pe_int) (fun _ _ => rfl)) pa_nil)))))))) (pss_one (ps_ret (pe_bl))) (pss_nil)) (pss_one (ps_ret (pe_callB (cr_all rfl) (by rfl) (b_all T) (by decide +kernel) (pa_cons (pe_lc (own := [("sign", 1)]) (by rfl) sc_is_name.nd (pi_list (pv 0)) (blkOk_by (own := [("sign", 1)]) (N := ["signs", "sign"]) (sc := d_is_name.scope) (by decide +kernel)) (fun _ _ _ _ _ => pg_name (i := 1) sc_is_name.nd rfl (Or.inl rfl)) (fun _ _ _ _ _ => pts_nil) (fun _ _ _ _ _ => pe_or (pe_c0 (ok_is_letter T) hr (by decide) rfl (pa_cons (pv 1) pa_nil)) (pe_one (pe_c0 (ok_is_digit T) hr (by decide) rfl (pa_cons (pv 1) pa_nil))))) pa_nil))))), ?_⟩), g_is_name T, F.kp, F.bindsN (fun _ _ _ _ _ _ us hl => match us, hl with | [_], _ => rfl)⟩⟩
  · obtain ⟨a, t, rfl, _⟩ := h
    rfl
  · obtain ⟨a, t, rfl, hS, q⟩ := h
    have iN := isName_iff t
    refine ⟨_, rfl, a, _, rfl, .inl hS, rfl, _, rfl, ?_⟩
    by_cases c1 : V.int ((nv t).length : Int) = V.int 0
    · refine ifT (decide_eq_true c1) (iteT ?_)
      have c0 : t.length = 0 := by
        have := V.int.inj c1
        rw [nv_len] at this
        omega
      rw [if_pos (.inl c0)] at iN
      rw [iN] at q
      exact q H (Same.refl H)
    · refine ifF (decide_eq_false c1) ⟨_, rfl, a, _, rfl, .inl hS, _, _, rfl, rfl, _, rfl, ?_⟩
      have c0 : t.length ≠ 0 := fun z => c1 (by rw [nv_len, z]; rfl)
      by_cases c2 : (12 : Int) < ((nv t).length : Int)
      · refine ifT (decide_eq_true c2) (iteT ?_)
        rw [nv_len] at c2
        rw [if_pos (.inr (.inl (by omega)))] at iN
        rw [iN] at q
        exact q H (Same.refl H)
      · refine ifF (decide_eq_false c2) ?_
        obtain ⟨n, r, rfl⟩ : ∃ n r, t = n :: r := by
          cases t with
          | nil => exact absurd rfl c0
          | cons n r => exact ⟨n, r, rfl⟩
        refine ⟨_, rfl, a, _, 0, .int (n : Nat), rfl, rfl, hS, atI_nat (j := 0) rfl, n, rfl, _, rfl, ?_⟩
        rw [nv_len] at c2
        cases c3 : Vbbtaa.isSmall n with
        | false =>
          refine iteT ?_
          rw [if_pos (.inr (.inr (by show Vbbtaa.isSmall n = false; exact c3)))] at iN
          rw [iN] at q
          exact q H (Same.refl H)
        | true =>
          refine iteF ?_
          rw [if_neg (by
            rintro (z | z | z)
            · cases z
            · omega
            · have z : Vbbtaa.isSmall n = false := z
              rw [c3] at z
              cases z)] at iN
          rw [iN] at q
          refine ⟨_, rfl, a, rfl, ⟨_, hS⟩, fun D hD => lc_it (walk_list (xs := nv (n :: r))) (fun i H1 => Same H H1 ∧ H1 D = some (.lst (((n :: r).take i).map fun c => V.bl (Vbbtaa.isSmall c || Vbbtaa.isDigit c)))) ⟨same_new hD, upd_same⟩ (fun i H1 _ h => h.1.seq hS) ?_ ?_⟩
          · rintro i x H1 H2 hi ⟨s1, d1⟩ ⟨rfl, hx⟩
            obtain ⟨m, hm, rfl⟩ := nv_get hx
            have fin : ∀ y : Bool, y = (Vbbtaa.isSmall m || Vbbtaa.isDigit m) → ∃ acc, H2 D = some (.lst acc) ∧ acc.length < sizeLine ∧ Same H (upd H2 D (.lst (acc ++ [V.bl y]))) ∧ (upd H2 D (.lst (acc ++ [V.bl y]))) D = some (.lst (((n :: r).take (i + 1)).map fun c => V.bl (Vbbtaa.isSmall c || Vbbtaa.isDigit c))) := by
              rintro y rfl
              refine ⟨_, d1, ?_, same_upd hD s1, ?_⟩
              · rw [List.length_map, List.length_take]
                exact small1000 (by omega)
              · rw [upd_same, List.take_add_one, hm, List.map_append]
                rfl
            refine ⟨rfl, lcYes ⟨_, rfl, m, rfl, _, rfl, ?_⟩⟩
            cases c4 : Vbbtaa.isSmall m with
            | true => exact iteT (fin true (by rw [c4]; rfl))
            | false => exact iteF ⟨_, rfl, m, rfl, fin _ (by rw [c4]; rfl)⟩
          · rintro H1 ⟨s1, d1⟩
            rw [nv_len, List.take_length] at d1
            refine ⟨D, (n :: r).map (fun c => Vbbtaa.isSmall c || Vbbtaa.isDigit c), rfl, SqL.of (by rw [d1, List.map_map]; rfl), ?_⟩
            have e : ((n :: r).map fun c => Vbbtaa.isSmall c || Vbbtaa.isDigit c).all id = (n :: r).all fun c => Vbbtaa.isSmall c || Vbbtaa.isDigit c := by rw [List.all_map]; rfl
            show Q (.bl (((n :: r).map fun c => Vbbtaa.isSmall c || Vbbtaa.isDigit c).all id)) H1
            rw [e]
            exact q H1 s1
def sp_is_number (K : PySem.W.Frag) : Sp := fun vs H Q _ => ∃ (a : Addr) (t : List Nat), vs = [.ref a] ∧ SqL K H a (nv t) ∧ ∀ H1, Same H H1 → Q (.bl (Vbbtaa.natOf 6 t).isSome) H1
theorem sc_is_number : FnScope ["signs", "sign"] ["signs"] d_is_number.scope := ⟨rfl, rfl, rfl, by decide +kernel, rfl, by decide +kernel, by decide +kernel⟩
theorem ok_is_number (T : Fx K mg base) : Fn0 P w K mg base 2 "is_number" (sp_is_number K) := by
  obtain ⟨fd, F⟩ := F_is_number T
  refine ⟨⟨_, fd, ["signs"], F.ok sc_is_number (fun vs H Q E h => ?_) (fun cdv A outer s H vs Q E hr h => ⟨_, PSs.nox (pss_cons (ps_if (PW.pt (pw_or (pt_cmpR op_eq (pe_callB call_len_seq (by rfl) (b_len T) (by decide +kernel) (pa_cons (pv 0) pa_nil)) (pe_int) (nomark _)) (pw_or1 (pt_cmpR op_gt (pe_callB call_len_seq (by rfl) (b_len T) (by decide +kernel) (pa_cons (pv 0) pa_nil)) (C8.pe_gc rfl (i_LONGEST_NUMBER T)) (nomark _))))) (pss_one (ps_ret (pe_bl))) (pss_nil)) (pss_cons (ps_if (PW.pt (pw_and (pt_cmpR op_gt (pe_callB call_len_seq (by rfl) (b_len T) (by decide +kernel) (pa_cons (pv 0) pa_nil)) (pe_int) (nomark _)) (pw_and1 (pt_cmpR op_eq (pe_ix ix_list (pv 0) (pe_int) (fun _ _ => rfl)) (C8.pe_gc rfl (i_DIGIT_0 T)) (nomark _))))) (pss_one (ps_ret (pe_bl))) (pss_nil)) (pss_one (ps_ret (pe_callB (cr_all rfl) (by rfl) (b_all T) (by decide +kernel) (pa_cons (pe_lc (own := [("sign", 1)]) (by rfl) sc_is_number.nd (pi_list (pv 0)) (blkOk_by (own := [("sign", 1)]) (N := ["signs", "sign"]) (sc := d_is_number.scope) (by decide +kernel)) (fun _ _ _ _ _ => pg_name (i := 1) sc_is_number.nd rfl (Or.inl rfl)) (fun _ _ _ _ _ => pts_nil) (fun _ _ _ _ _ => pe_c0 (ok_is_digit T) hr (by decide) rfl (pa_cons (pv 1) pa_nil))) pa_nil)))))), ?_⟩), g_is_number T, F.kp, F.bindsN (fun _ _ _ _ _ _ us hl => match us, hl with | [_], _ => rfl)⟩⟩
  · obtain ⟨a, t, rfl, _⟩ := h
    rfl
  · obtain ⟨a, t, rfl, hS, q⟩ := h
    have iN := natOf_iff t
    -- what follows the two tests
    have last : (t.length = 0 ∨ 6 < t.length) = False → (1 < t.length ∧ t.head? = some 48) = False → ∀ H1, Same H H1 → Q (.bl (t.all Vbbtaa.isDigit)) H1 := fun z1 z2 H1 s1 => by
      have e : (Vbbtaa.natOf 6 t).isSome = t.all Vbbtaa.isDigit := by
        rw [iN, if_neg (by rw [z1]; exact id), if_neg (by rw [z2]; exact id)]
        cases t.all Vbbtaa.isDigit <;> rfl
      rw [← e]
      exact q H1 s1
    have no1 : t.length = 0 ∨ 6 < t.length → Q (.bl false) H := fun z => by
      rw [if_pos z] at iN
      have := q H (Same.refl H)
      rw [iN] at this
      exact this
    have no2 : ¬ (t.length = 0 ∨ 6 < t.length) → 1 < t.length ∧ t.head? = some 48 → Q (.bl false) H := fun z y => by
      rw [if_neg z, if_pos y] at iN
      have := q H (Same.refl H)
      rw [iN] at this
      exact this
    have comp : ¬ (t.length = 0 ∨ 6 < t.length) → ¬ (1 < t.length ∧ t.head? = some 48) → tRet (tCB (rAll K) (tCons (tLc (iList K (tVar 0)) (gName 1) tYes (tCall sp_is_digit [] E0 (tCons (tVar 1) tNil)) (List.map (fun x => x.snd) [((Str.ofString "sign" : Str), 1)])) tNil)) { nx := fun x H' => Q V.non H', rt := Q } (L2.start ["signs", "sign"] [V.ref a]) H := by
      intro z1 z2
      refine ⟨_, rfl, a, rfl, ⟨_, hS⟩, fun D hD => lc_it (walk_list (xs := nv t)) (fun i H1 => Same H H1 ∧ H1 D = some (.lst ((t.take i).map fun c => V.bl (Vbbtaa.isDigit c)))) ⟨same_new hD, upd_same⟩ (fun i H1 _ h => h.1.seq hS) ?_ ?_⟩
      · rintro i x H1 H2 hi ⟨s1, d1⟩ ⟨rfl, hx⟩
        obtain ⟨m, hm, rfl⟩ := nv_get hx
        refine ⟨rfl, lcYes ⟨_, rfl, m, rfl, _, d1, ?_, same_upd hD s1, ?_⟩⟩
        · rw [List.length_map, List.length_take]
          exact small1000 (by omega)
        · rw [upd_same, List.take_add_one, hm, List.map_append]
          rfl
      · rintro H1 ⟨s1, d1⟩
        rw [nv_len, List.take_length] at d1
        refine ⟨D, t.map Vbbtaa.isDigit, rfl, SqL.of (by rw [d1, List.map_map]; rfl), ?_⟩
        have e : (t.map Vbbtaa.isDigit).all id = t.all Vbbtaa.isDigit := by rw [List.all_map]; rfl
        show Q (.bl ((t.map Vbbtaa.isDigit).all id)) H1
        rw [e]
        exact last (eq_false z1) (eq_false z2) H1 s1
    refine ⟨_, rfl, a, _, rfl, .inl hS, rfl, _, rfl, ?_⟩
    by_cases c1 : V.int ((nv t).length : Int) = V.int 0
    · refine ifT (decide_eq_true c1) (iteT (no1 (.inl ?_)))
      have := V.int.inj c1
      rw [nv_len] at this
      omega
    · refine ifF (decide_eq_false c1) ⟨_, rfl, a, _, rfl, .inl hS, _, _, rfl, rfl, _, rfl, ?_⟩
      have c0 : t.length ≠ 0 := fun z => c1 (by rw [nv_len, z]; rfl)
      by_cases c2 : (6 : Int) < ((nv t).length : Int)
      · refine ifT (decide_eq_true c2) (no1 (.inr ?_))
        rw [nv_len] at c2
        omega
      · refine ifF (decide_eq_false c2) ⟨_, rfl, a, _, rfl, .inl hS, _, _, rfl, rfl, _, rfl, ?_⟩
        have z1 : ¬ (t.length = 0 ∨ 6 < t.length) := by
          rw [nv_len] at c2
          omega
        by_cases c3 : (1 : Int) < ((nv t).length : Int)
        · obtain ⟨n, r, rfl⟩ : ∃ n r, t = n :: r := by
            cases t with
            | nil => exact absurd rfl c0
            | cons n r => exact ⟨n, r, rfl⟩
          refine ifT (decide_eq_true c3) ⟨_, rfl, a, _, 0, .int (n : Nat), rfl, rfl, hS, atI_nat (j := 0) rfl, rfl, _, rfl, ?_⟩
          rw [nv_len] at c3
          by_cases c4 : V.int ((n : Nat) : Int) = V.int 48
          · refine ifT (decide_eq_true c4) (no2 z1 ⟨by omega, ?_⟩)
            have := V.int.inj c4
            show some n = some 48
            congr 1
            omega
          · refine ifF (decide_eq_false c4) (comp z1 fun z => c4 ?_)
            have : n = 48 := Option.some.inj z.2
            rw [this]
            rfl
        · refine ifF (decide_eq_false c3) (iteF (comp z1 fun z => ?_))
          rw [nv_len] at c3
          omega
def sp_bytes_of : Sp := fun vs H Q _ => ∃ z : Str, vs = [.str z] ∧ z.cps.size ≤ 1000 ∧ ∀ p H1, Same H H1 → H p = none → H1 p = some (.lst (nv z.cps.toList)) → Q (.ref p) H1
theorem sc_bytes_of : FnScope ["written", "sign"] ["written"] d_bytes_of.scope := ⟨rfl, rfl, rfl, by decide +kernel, rfl, by decide +kernel, by decide +kernel⟩
theorem ok_bytes_of (T : Fx K mg base) : Fn0 P w K mg base 1 "bytes_of" sp_bytes_of := by
  obtain ⟨fd, F⟩ := F_bytes_of T
  refine ⟨⟨_, fd, ["written"], F.ok sc_bytes_of (fun vs H Q E h => ?_) (fun cdv A outer s H vs Q E hr h => ⟨_, PSs.nox (pss_one (ps_ret (pe_lc (own := [("sign", 1)]) (by rfl) sc_bytes_of.nd (pi_str (pv 0)) (blkOk_by (own := [("sign", 1)]) (N := ["written", "sign"]) (sc := d_bytes_of.scope) (by decide +kernel)) (fun _ _ _ _ _ => pg_name (i := 1) sc_bytes_of.nd rfl (Or.inl rfl)) (fun _ _ _ _ _ => pts_nil) (fun _ _ _ _ _ => pe_callB call_ord (by rfl) (b_ord T) (by decide +kernel) (pa_cons (pv 1) pa_nil))))), ?_⟩), g_bytes_of T, F.kp, F.bindsN (fun _ _ _ _ _ _ us hl => match us, hl with | [_], _ => rfl)⟩⟩
  · obtain ⟨z, rfl, _⟩ := h
    rfl
  · obtain ⟨z, rfl, hz, q⟩ := h
    refine ⟨_, rfl, z, rfl, fun D hD => lc_it (walk_str (z := z)) (fun i H1 => Same H H1 ∧ H1 D = some (.lst (nv (z.cps.toList.take i)))) ⟨same_new hD, upd_same⟩ (fun _ _ _ _ => trivial) ?_ ?_⟩
    · rintro i x H1 H2 hi ⟨s1, d1⟩ ⟨rfl, c, hc, rfl⟩
      refine ⟨rfl, lcYes ⟨_, rfl, _, rfl, rfl, _, d1, ?_, same_upd hD s1, ?_⟩⟩
      · rw [nv_len, List.length_take]
        exact small1000 (by rw [Array.length_toList]; omega)
      · have hc2 : z.cps.toList[i]? = some c := by simpa using hc
        rw [upd_same, List.take_add_one, hc2]
        unfold nv
        rw [List.map_append]
        rfl
    · rintro H1 ⟨s1, d1⟩
      rw [← Array.length_toList, List.take_length] at d1
      exact q D H1 s1 hD d1
end
end SJ
end
section
set_option Elab.async false
set_option linter.all false
set_option maxRecDepth 100000
set_option maxHeartbeats 4000000
namespace SJ
open PySem PySem.Spec PyProof.Rows L2
section
variable {P : Program} {w : World} {K : PySem.W.Frag} {mg : Str → Option Value} {base : Heap}
theorem keeps_but {H H1 : Hp} {a : Addr} (h : ∀ c, c ≠ a → H1 c = H c) : Keeps [a] H H1 := fun b o n e => by
  rw [h b (by simpa using n)]
  exact e
theorem RestAt.same {N : Addr → Prop} {H H1 : Hp} {a : Addr} {r : Vbbtaa.Rest} (h : RestAt K N H a r) (s : Same H H1) : RestAt K N H1 a r := by
  obtain ⟨ws, k, ⟨dx, lw, xs, e1, e2, eN, e3, e4⟩, hk, ew⟩ := h
  refine ⟨ws, k, ⟨dx, lw, xs, s _ _ e1, s _ _ e2, eN, e3, fun i w0 hw => ?_⟩, hk, ew⟩
  obtain ⟨b, eb, hb⟩ := e4 i w0 hw
  exact ⟨b, eb, WordAt.keep (S := []) hb s⟩
/-- a word is taken that must be of a kind -/
def TakeW (K : PySem.W.Frag) (ok : List Nat → Bool) : Sp := fun vs H Q E => ∃ (N : Addr → Prop) (a : Addr) (r : Vbbtaa.Rest), vs = [.ref a] ∧ RestAt K N H a r ∧ (r.words = [] → OutF K [a] H E ⟨1, r.halt_⟩) ∧
  (∀ x l, r.words = x :: l → ok x.text = false → OutF K [a] H E ⟨1, x.at_⟩) ∧
  ∀ x l, r.words = x :: l → ok x.text = true → ∀ b H1, WordAt K N H1 b x → RestAt K N H1 a { r with words := l } → Keeps [a] H H1 → Q (.ref b) H1
theorem sc_take_name : FnScope ["line", "word"] ["line"] d_take_name.scope := ⟨rfl, rfl, rfl, by decide +kernel, rfl, by decide +kernel, by decide +kernel⟩
theorem ok_take_name (T : Fx K mg base) : FnX P w K mg base 4 "take_name" (TakeW K Vbbtaa.isName) := by
  obtain ⟨fd, F⟩ := F_take_name T
  refine ⟨⟨_, fd, ["line"], F.ok sc_take_name (fun vs H Q E h => ?_) (fun cdv A outer s H vs Q E hr h => ⟨_, pss_cons (ps_set (i := 1) sc_take_name.nd rfl (Or.inl rfl) (pe_mx0 (ok_Line_take T) hr (by decide) (pv 0) (takes_of rfl rfl rfl rfl))) (pss_cons (ps_if (pt_not (pt_val (pe_c0 (ok_is_name T) hr (by decide) rfl (pa_cons (pe_fld (pv 1) rfl) pa_nil)))) (pss_one (ps_raiseTextFault rfl (T.TextFault) hr (takes_of rfl rfl rfl rfl) (pa_cons (C8.pe_gc rfl (i_WRONG_WORD T)) (pa_cons (pe_fld (pv 1) rfl) pa_nil)))) (pss_nil)) (pss_one (ps_ret (pv 1)))), ?_⟩), g_take_name T, F.kp, F.bindsN (fun _ _ _ _ _ _ us hl => match us, hl with | [_], _ => rfl)⟩⟩
  · obtain ⟨N, a, r, rfl, _⟩ := h
    rfl
  · obtain ⟨N, a, r, rfl, hR, kN, kB, kS⟩ := h
    obtain ⟨ws, k, ⟨dx, lw, xs, e1, e2, eN, e3, e4⟩, hk, ew⟩ := id hR
    refine ⟨_, rfl, a, dx, _, rfl, e1, rfl, N, a, r, rfl, hR, fun z H1 d k1 hd => kN z H1 d (k1.mono (by simp)) hd, fun x l exl b H1 hw hr1 keep => ?_⟩
    obtain ⟨dxb, sg, f1, f2, _⟩ := id hw
    refine ⟨_, rfl, b, _, dxb, _, _, rfl, f1, c_Word T, n_Word_signs T, rfl, sg, x.text, rfl, SqL.of f2, fun H2 s2 => ⟨_, rfl, ?_⟩⟩
    cases hn : Vbbtaa.isName x.text with
    | true => exact iteF ⟨_, rfl, kS x l exl hn b H2 (WordAt.keep (S := []) hw s2) (hr1.same s2) ((keeps_but keep).trans (Same.keeps s2))⟩
    | false =>
      refine iteT ⟨_, rfl, b, _, dxb, _, _, rfl, s2 _ _ f1, c_Word T, n_Word_place T, rfl, _, _, rfl, fun d hd => ?_⟩
      exact kB x l exl hn _ d ((keeps_but keep).trans ((Same.keeps s2).trans (Same.keeps (same_new hd)))) upd_same
theorem sc_take_number : FnScope ["line", "word"] ["line"] d_take_number.scope := ⟨rfl, rfl, rfl, by decide +kernel, rfl, by decide +kernel, by decide +kernel⟩
theorem ok_take_number (T : Fx K mg base) : FnX P w K mg base 4 "take_number" (TakeW K fun t => (Vbbtaa.natOf 6 t).isSome) := by
  obtain ⟨fd, F⟩ := F_take_number T
  refine ⟨⟨_, fd, ["line"], F.ok sc_take_number (fun vs H Q E h => ?_) (fun cdv A outer s H vs Q E hr h => ⟨_, pss_cons (ps_set (i := 1) sc_take_number.nd rfl (Or.inl rfl) (pe_mx0 (ok_Line_take T) hr (by decide) (pv 0) (takes_of rfl rfl rfl rfl))) (pss_cons (ps_if (pt_not (pt_val (pe_c0 (ok_is_number T) hr (by decide) rfl (pa_cons (pe_fld (pv 1) rfl) pa_nil)))) (pss_one (ps_raiseTextFault rfl (T.TextFault) hr (takes_of rfl rfl rfl rfl) (pa_cons (C8.pe_gc rfl (i_WRONG_WORD T)) (pa_cons (pe_fld (pv 1) rfl) pa_nil)))) (pss_nil)) (pss_one (ps_ret (pv 1)))), ?_⟩), g_take_number T, F.kp, F.bindsN (fun _ _ _ _ _ _ us hl => match us, hl with | [_], _ => rfl)⟩⟩
  · obtain ⟨N, a, r, rfl, _⟩ := h
    rfl
  · obtain ⟨N, a, r, rfl, hR, kN, kB, kS⟩ := h
    obtain ⟨ws, k, ⟨dx, lw, xs, e1, e2, eN, e3, e4⟩, hk, ew⟩ := id hR
    refine ⟨_, rfl, a, dx, _, rfl, e1, rfl, N, a, r, rfl, hR, fun z H1 d k1 hd => kN z H1 d (k1.mono (by simp)) hd, fun x l exl b H1 hw hr1 keep => ?_⟩
    obtain ⟨dxb, sg, f1, f2, _⟩ := id hw
    refine ⟨_, rfl, b, _, dxb, _, _, rfl, f1, c_Word T, n_Word_signs T, rfl, sg, x.text, rfl, SqL.of f2, fun H2 s2 => ⟨_, rfl, ?_⟩⟩
    cases hn : (Vbbtaa.natOf 6 x.text).isSome with
    | true => exact iteF ⟨_, rfl, kS x l exl hn b H2 (WordAt.keep (S := []) hw s2) (hr1.same s2) ((keeps_but keep).trans (Same.keeps s2))⟩
    | false =>
      refine iteT ⟨_, rfl, b, _, dxb, _, _, rfl, s2 _ _ f1, c_Word T, n_Word_place T, rfl, _, _, rfl, fun d hd => ?_⟩
      exact kB x l exl hn _ d ((keeps_but keep).trans ((Same.keeps s2).trans (Same.keeps (same_new hd)))) upd_same
end
end SJ
end
section
set_option Elab.async false
set_option linter.all false
set_option maxRecDepth 100000
set_option maxHeartbeats 4000000
namespace SJ
open PySem PySem.Spec PyProof.Rows L2
section
variable {P : Program} {w : World} {K : PySem.W.Frag} {mg : Str → Option Value} {base : Heap}
/-- the words' objects -/
def WordsAt (K : PySem.W.Frag) (N : Addr → Prop) (H : Hp) (xs : List V) (ws : List Vbbtaa.Word) : Prop := xs.length = ws.length ∧ ∀ (i : Nat) w, ws[i]? = some w → ∃ b, xs[i]? = some (.ref b) ∧ WordAt K N H b w
theorem WordsAt.same {N : Addr → Prop} {H H1 : Hp} {xs : List V} {ws : List Vbbtaa.Word} (h : WordsAt K N H xs ws) (s : Same H H1) : WordsAt K N H1 xs ws := ⟨h.1, fun i w0 hw => let ⟨b, e, z⟩ := h.2 i w0 hw; ⟨b, e, WordAt.keep (S := []) z s⟩⟩
theorem WordsAt.snoc {N : Addr → Prop} {p : Addr} {H H1 : Hp} {xs : List V} {ws : List Vbbtaa.Word} {b dx sg : Addr} {x : Vbbtaa.Word} (h : WordsAt K N H xs ws) (hN : ∀ c, N c → c ≠ p) (hp : ∃ ys, H p = some (.lst ys)) (k : ∀ c o, c ≠ p → H c = some o → H1 c = some o)
    (e1 : H1 b = some (.ins (He.ga K "Word") dx [("signs", .ref sg), ("place", .int x.at_)])) (e2 : H1 sg = some (.lst (nv x.text))) (e3 : N sg) : WordsAt K N H1 (xs ++ [.ref b]) (ws ++ [x]) := by
  obtain ⟨ys, hp⟩ := hp
  refine ⟨by rw [List.length_append, List.length_append, h.1]; rfl, fun i w0 hw => ?_⟩
  rcases Nat.lt_or_ge i ws.length with hi | hi
  · rw [List.getElem?_append_left hi] at hw
    obtain ⟨c, ec, dx, sg, f1, f2, f3⟩ := h.2 i w0 hw
    refine ⟨c, by rw [List.getElem?_append_left (by rw [h.1]; exact hi)]; exact ec, dx, sg, k _ _ ?_ f1, k _ _ (hN _ f3) f2, f3⟩
    rintro rfl
    rw [hp] at f1
    cases f1
  · rw [List.getElem?_append_right hi] at hw
    have : i - ws.length = 0 := by
      have := (List.getElem?_eq_some_iff.mp hw).1
      simp at this
      omega
    rw [this] at hw
    cases hw
    refine ⟨b, ?_, dx, sg, e1, e2, e3⟩
    rw [List.getElem?_append_right (by rw [h.1]; exact hi), h.1, this]
    rfl
theorem cut_slice {t : List Nat} {f p : Nat} (h1 : f ≤ p) (h2 : p ≤ t.length) : cutV (nv t) (some (f : Int)) (some (p : Int)) = nv (slice t f p) := by
  have e1 : HT.sIx (nv t).length 0 (some (f : Int)) = f := by
    rw [HT.sIx_nat, nv_len]
    omega
  have e2 : HT.sIx (nv t).length (nv t).length (some (p : Int)) = p := by
    rw [HT.sIx_nat, nv_len]
    omega
  unfold cutV
  rw [e1, e2]
  unfold nv slice
  rw [List.map_take, List.map_drop]
def sp_words_between (K : PySem.W.Frag) : Sp := fun vs H Q _ => ∃ (a : Addr) (t : List Nat) (b e : Nat), vs = [.ref a, .int b, .int e] ∧ SqL K H a (nv t) ∧ b ≤ e ∧ e ≤ t.length ∧ t.length ≤ 4000 ∧
  ∀ p H1 xs, Same H H1 → H p = none → H1 p = some (.lst xs) → WordsAt K (fun c => H c = none ∧ c ≠ p) H1 xs ((wordsM t b e).map (wordOf t)) → Q (.ref p) H1
theorem sc_words_between : FnScope ["text", "begin", "behind", "words", "first", "place"] ["text", "begin", "behind"] d_words_between.scope := ⟨rfl, rfl, rfl, by decide +kernel, rfl, by decide +kernel, by decide +kernel⟩
theorem ok_words_between (T : Fx K mg base) : Fn0 P w K mg base 3 "words_between" (sp_words_between K) := by
  obtain ⟨fd, F⟩ := F_words_between T
  refine ⟨⟨_, fd, ["text", "begin", "behind"], F.ok sc_words_between (fun vs H Q E h => ?_) (fun cdv A outer s H vs Q E hr h => ⟨_, PSs.nox (pss_cons (ps_set (i := 3) sc_words_between.nd rfl (Or.inl rfl) (pe_lst (pa_nil))) (pss_cons (ps_set (i := 4) sc_words_between.nd rfl (Or.inl rfl) (pv 1)) (pss_cons (ps_for PassesOwn.never rfl (pi_range2 (by rfl) (b_range T) (pa_cons (pv 1) (pa_cons (pe_op op_add (pv 2) (pe_int)) pa_nil))) (pg_name (i := 5) sc_words_between.nd rfl (Or.inl rfl)) (pss_one (ps_if (PW.pt (pw_or (pt_cmpR op_eq (pv 5) (pv 2) (nomark _)) (pw_or1 (pt_cmpR op_eq (pe_ix ix_list (pv 0) (pv 5) (fun _ _ => rfl)) (C8.pe_gc rfl (i_BLANK T)) (nomark _))))) (pss_cons (ps_if (pt_cmpR op_lt (pv 4) (pv 5) (nomark _)) (pss_one (ps_expr (pe_bm PySem.F.plainAttrs_list PySem.F.slot_list_append PySem.F.type_list_append mt_append (pv 3) (pa_cons (pe_k0 (ok_Word_init T) hr (by decide) rfl (pa_cons (pe_slice sl_list (pv 0) (po_some (pv 4)) (po_some (pv 5))) (pa_cons (pv 4) pa_nil))) pa_nil)))) (pss_nil)) (pss_one (ps_set (i := 4) sc_words_between.nd rfl (Or.inl rfl) (pe_op op_add (pv 5) (pe_int))))) (pss_nil)))) (pss_one (ps_ret (pv 3)))))), ?_⟩), g_words_between T, F.kp, F.bindsN (fun _ _ _ _ _ _ us hl => match us, hl with | [_, _, _], _ => rfl)⟩⟩
  · obtain ⟨a, t, b, e, rfl, _⟩ := h
    rfl
  · obtain ⟨a, t, b, e, rfl, hS, hbe, het, hlen, q⟩ := h
    refine ⟨(by show 0 ≤ sizeLine; exact Nat.zero_le _), fun p hp => ⟨_, rfl, ?_⟩⟩
    refine ⟨_, rfl, _, rfl, _, _, rfl, rfl, (b : Int), (e : Int) + 1, rfl, ⟨by omega, by omega, by omega, by omega⟩, ?_⟩
    have en : ((e : Int) + 1 - (b : Int)).toNat = e + 1 - b := by omega
    rw [en]
    let Iv : Nat → L2.St → Hp → Prop := fun j σ H1 => ∃ (xs : List V) (done : List Vbbtaa.Word) (f : Nat) (v : Option V), σ = [some (.ref a), some (.int b), some (.int e), some (.ref p), some (.int f), v] ∧ Same H H1 ∧ H1 p = some (.lst xs) ∧ WordsAt K (fun c => H c = none ∧ c ≠ p) H1 xs done ∧ done.length ≤ j ∧
      f ≤ b + j ∧ done ++ (wordsFrom t e (e + 1 - b - j) f (b + j)).map (wordOf t) = (wordsM t b e).map (wordOf t)
    refine for_it (walk_range (lo := (b : Int)) (n := e + 1 - b)) Iv ⟨[], [], b, none, rfl, same_new hp, upd_same, ⟨rfl, fun i w0 hw => by simp at hw⟩, Nat.le_refl _, Nat.le_refl _, rfl⟩ (fun _ _ _ _ _ => trivial) ?_ ?_
    · rintro j x σ H1 H2 hj ⟨xs, done, f, v, rfl, s1, hp1, hW, hdl, hf, hall⟩ ⟨rfl, rfl⟩
      have ep : (b : Int) + (j : Int) = ((b + j : Nat) : Int) := by omega
      have hfu : e + 1 - b - j = (e + 1 - b - (j + 1)) + 1 := by omega
      rw [hfu] at hall
      have hS1 : SqL K H2 a (nv t) := s1.seq hS
      have taken : (b + j = e ∨ t[b + j]? = some 32) → ∀ D : Ends, (∀ σ H3, Iv (j + 1) σ H3 → D.nx σ H3) → tSeq (tIfS (tTest (tOp (rI0 fun i j => V.bl (decide (i < j))) (tVar 4) (tVar 5))) (tDrop (tBM K "list" rAppend (tVar 3) (tCons (tMake (He.ga K "Word") (sp_Word_init K) [] E0 (tCons (tSl (rSlL K) (tVar 0) (tPart (tVar 4)) (tPart (tVar 5))) (tCons (tVar 4) tNil))) tNil))) tNext)
          (tAsg (tOp (rI0 fun i j => V.int (i + j)) (tVar 5) (tC (V.int 1))) (gName 4)) D [some (V.ref a), some (V.int b), some (V.int e), some (V.ref p), some (V.int f), some (V.int ((b : Int) + (j : Int)))] H2 := by
        intro hc D hD
        unfold wordsFrom at hall
        rw [if_pos hc] at hall
        have e1 : (b : Int) + (j : Int) + 1 = ((b + j + 1 : Nat) : Int) := by omega
        refine ⟨_, rfl, _, rfl, _, _, rfl, rfl, _, rfl, ?_⟩
        by_cases c : (f : Int) < (b : Int) + (j : Int)
        · refine ifT (decide_eq_true c) ⟨_, rfl, .inl ⟨rfl, _, SqL.of hp1⟩, ?_⟩
          rw [if_pos (show f < b + j by omega)] at hall
          refine ⟨_, rfl, _, rfl, (f : Int), rfl, _, rfl, (b : Int) + (j : Int), rfl, a, nv t, rfl, hS1, fun g hg => ⟨_, rfl, fun x dx nx nd ne => ⟨x, dx, _, _, rfl, upd_same, fun H3 h3 k3 => ⟨rfl, ?_⟩⟩⟩⟩
          rw [ep, cut_slice (by omega) (by omega)] at *
          have s2 : Same H2 (upd H2 g (.lst (nv (slice t f (b + j))))) := same_new hg
          have s3 : Same (upd H2 g (.lst (nv (slice t f (b + j))))) H3 := fun c o ec => by
            have cx : c ≠ x := ne_of_none ec nx
            rw [k3 c cx, upd_ne cx, upd_ne (ne_of_none ec nd)]
            exact ec
          have gAt : (upd H2 g (.lst (nv (slice t f (b + j))))) g = some (.lst (nv (slice t f (b + j)))) := upd_same
          have pAt : (upd H2 g (.lst (nv (slice t f (b + j))))) p = some (.lst xs) := s2 _ _ hp1
          have p3 : H3 p = some (.lst xs) := s3 _ _ pAt
          have px : x ≠ p := (ne_of_none pAt nx).symm
          have pg : g ≠ p := (ne_of_none hp1 hg).symm
          have hsz : xs.length < sizeLine := by
            rw [hW.1]
            have : done.length ≤ 4001 := by omega
            rw [sizeLine_eq]
            omega
          refine ⟨p, xs, .ref x, rfl, rfl, p3, hsz, _, rfl, _, _, rfl, rfl, ?_⟩
          have sAll : Same H (upd H3 p (.lst (xs ++ [.ref x]))) := same_upd hp fun c o ec => s3 _ _ (s2 _ _ (s1 _ _ ec))
          have off : WordsAt K (fun c => H c = none ∧ c ≠ p) (upd H3 p (.lst (xs ++ [.ref x]))) (xs ++ [.ref x]) (done ++ [wordOf t (f, b + j)]) := by
            refine hW.snoc (x := wordOf t (f, b + j)) (dx := dx) (sg := g) (fun c hc => hc.2) ⟨xs, hp1⟩ (fun c o hcp ec => ?_) ?_ ?_ ⟨s1.free hg, pg⟩
            · rw [upd_ne hcp]
              exact s3 _ _ (s2 _ _ ec)
            · rw [upd_ne px]
              exact h3
            · rw [upd_ne pg]
              exact s3 _ _ gAt
          refine hD _ _ ⟨xs ++ [.ref x], done ++ [wordOf t (f, b + j)], b + j + 1, some (.int ((b + j : Nat) : Int)), ?_, sAll, upd_same, off, by rw [List.length_append]; show done.length + 1 ≤ j + 1; omega, by omega, ?_⟩
          · show [_, _, _, _, some (V.int (((b + j : Nat) : Int) + 1)), _] = _
            rfl
          · rw [List.append_assoc]
            exact hall
        · refine ifF (decide_eq_false c) ⟨_, rfl, _, _, rfl, rfl, ?_⟩
          rw [if_neg (show ¬ f < b + j by omega)] at hall
          refine hD _ _ ⟨xs, done, b + j + 1, some (.int ((b : Int) + (j : Int))), ?_, s1, hp1, hW, by omega, by omega, hall⟩
          show [_, _, _, _, some (V.int ((b : Int) + (j : Int) + 1)), _] = _
          rw [e1]
      refine ⟨_, rfl, _, rfl, rfl, _, rfl, ?_⟩
      by_cases c1 : V.int ((b : Int) + (j : Int)) = V.int (e : Int)
      · exact ifT (decide_eq_true c1) (iteT (taken (.inl (by have := V.int.inj c1; omega)) _ fun _ _ h => h))
      · have c1' : b + j ≠ e := fun z => c1 (by rw [ep, z])
        have hlt : b + j < t.length := by omega
        refine ifF (decide_eq_false c1) ⟨_, rfl, _, rfl, a, nv t, (b : Int) + (j : Int), .int (t[b + j] : Nat), rfl, rfl, hS1, by rw [ep]; exact atI_nat (by unfold nv; rw [List.getElem?_map, List.getElem?_eq_getElem hlt]; rfl), rfl, _, rfl, ?_⟩
        by_cases c2 : V.int ((t[b + j] : Nat) : Int) = V.int 32
        · refine ifT (decide_eq_true c2) (taken (.inr ?_) _ fun _ _ h => h)
          have := V.int.inj c2
          rw [List.getElem?_eq_getElem hlt]
          congr 1
          omega
        · refine ifF (decide_eq_false c2) ?_
          unfold wordsFrom at hall
          rw [if_neg (by
            rintro (z | z)
            · exact c1' z
            · rw [List.getElem?_eq_getElem hlt] at z
              exact c2 (by rw [Option.some.inj z]; rfl))] at hall
          exact ⟨xs, done, f, _, rfl, s1, hp1, hW, by omega, by omega, hall⟩
    · rintro σ H1 ⟨xs, done, f, v, rfl, s1, hp1, hW, hdl, hf, hall⟩
      refine ⟨_, rfl, q p H1 xs s1 hp hp1 ?_⟩
      have e0 : e + 1 - b - (e + 1 - b) = 0 := by omega
      rw [e0] at hall
      have hall : done ++ [] = _ := hall
      rw [List.append_nil] at hall
      rw [← hall]
      exact hW
end
end SJ
end
section
set_option Elab.async false
set_option linter.all false
set_option maxRecDepth 100000
set_option maxHeartbeats 4000000
namespace SJ
open PySem PySem.Spec PyProof.Rows L2
section
variable {P : Program} {w : World} {K : PySem.W.Frag} {mg : Str → Option Value} {base : Heap}
/-- only a list at p is written, which is none of the line's own -/
theorem RestAt.off {N : Addr → Prop} {H H1 : Hp} {a p : Addr} {r : Vbbtaa.Rest} (h : RestAt K N H a r) (hN : ∀ c, N c → c ≠ p) (hp : ∃ ys, H p = some (.lst ys)) (k : ∀ c o, c ≠ p → H c = some o → H1 c = some o) : RestAt K N H1 a r := by
  obtain ⟨ys, hp⟩ := hp
  have ni : ∀ {c C dx : Addr} {fs : List (Str × V)}, H c = some (.ins C dx fs) → c ≠ p := fun {c C dx fs} e => by
    rintro rfl
    rw [hp] at e
    cases e
  obtain ⟨ws, m, ⟨dx, lw, xs, e1, e2, eN, e3, e4⟩, hk, ew⟩ := h
  refine ⟨ws, m, ⟨dx, lw, xs, k _ _ (ni e1) e1, k _ _ (hN _ eN) e2, eN, e3, fun i w0 hw => ?_⟩, hk, ew⟩
  obtain ⟨b, eb, dxb, sg, f1, f2, f3⟩ := e4 i w0 hw
  exact ⟨b, eb, dxb, sg, k _ _ (ni f1) f1, k _ _ (hN _ f3) f2, f3⟩
/-- the lines' objects, each its own -/
structure LinesAt (K : PySem.W.Frag) (N : Addr → Prop) (H : Hp) (xs : List V) (rs : List Vbbtaa.Rest) : Prop where
  len : xs.length = rs.length
  at_ : ∀ (i : Nat) r, rs[i]? = some r → ∃ b, xs[i]? = some (.ref b) ∧ RestAt K N H b r
  nd : xs.Nodup
  own : ∀ a, V.ref a ∈ xs → N a
theorem RestAt.isLine {N : Addr → Prop} {H : Hp} {a : Addr} {r : Vbbtaa.Rest} (h : RestAt K N H a r) : H a ≠ none := by
  obtain ⟨_, _, ⟨_, _, _, e1, _⟩, _⟩ := h
  rw [e1]
  exact fun z => by cases z
def sp_lines_of (K : PySem.W.Frag) : Sp := fun vs H Q _ => ∃ (a : Addr) (t : List Nat), vs = [.ref a] ∧ SqL K H a (nv t) ∧ t.length ≤ 4000 ∧
  ∀ p H1 xs, Same H H1 → H p = none → H1 p = some (.lst xs) → LinesAt K (fun c => H c = none ∧ c ≠ p) H1 xs ((linesM t).map (restM t)) → Q (.ref p) H1
theorem sc_lines_of : FnScope ["text", "lines", "begin", "place"] ["text"] d_lines_of.scope := ⟨rfl, rfl, rfl, by decide +kernel, rfl, by decide +kernel, by decide +kernel⟩
theorem ok_lines_of (T : Fx K mg base) : Fn0 P w K mg base 4 "lines_of" (sp_lines_of K) := by
  obtain ⟨fd, F⟩ := F_lines_of T
  refine ⟨⟨_, fd, ["text"], F.ok sc_lines_of (fun vs H Q E h => ?_) (fun cdv A outer s H vs Q E hr h => ⟨_, PSs.nox (pss_cons (ps_set (i := 1) sc_lines_of.nd rfl (Or.inl rfl) (pe_lst (pa_nil))) (pss_cons (ps_set (i := 2) sc_lines_of.nd rfl (Or.inl rfl) (pe_int)) (pss_cons (ps_for PassesOwn.never rfl (pi_range1 (by rfl) (b_range T) (pa_cons (pe_op op_add (pe_callB call_len_seq (by rfl) (b_len T) (by decide +kernel) (pa_cons (pv 0) pa_nil)) (pe_int)) pa_nil)) (pg_name (i := 3) sc_lines_of.nd rfl (Or.inl rfl)) (pss_one (ps_if (PW.pt (pw_or (pt_cmpR op_eq (pv 3) (pe_callB call_len_seq (by rfl) (b_len T) (by decide +kernel) (pa_cons (pv 0) pa_nil)) (nomark _)) (pw_or1 (pt_cmpR op_eq (pe_ix ix_list (pv 0) (pv 3) (fun _ _ => rfl)) (C8.pe_gc rfl (i_NEW_LINE T)) (nomark _))))) (pss_cons (ps_expr (pe_bm PySem.F.plainAttrs_list PySem.F.slot_list_append PySem.F.type_list_append mt_append (pv 1) (pa_cons (pe_k0 (ok_Line_init T) hr (by decide) rfl (pa_cons (pe_c0 (ok_words_between T) hr (by decide) rfl (pa_cons (pv 0) (pa_cons (pv 2) (pa_cons (pv 3) pa_nil)))) (pa_cons (pv 3) pa_nil))) pa_nil))) (pss_one (ps_set (i := 2) sc_lines_of.nd rfl (Or.inl rfl) (pe_op op_add (pv 3) (pe_int))))) (pss_nil)))) (pss_one (ps_ret (pv 1)))))), ?_⟩), g_lines_of T, F.kp, F.bindsN (fun _ _ _ _ _ _ us hl => match us, hl with | [_], _ => rfl)⟩⟩
  · obtain ⟨a, t, rfl, _⟩ := h
    rfl
  · obtain ⟨a, t, rfl, hS, hlen, q⟩ := h
    refine ⟨(by show 0 ≤ sizeLine; exact Nat.zero_le _), fun p hp => ?_⟩
    have hS0 : SqL K (upd H p (.lst [])) a (nv t) := (same_new hp).seq hS
    refine ⟨_, rfl, a, _, rfl, .inl hS0, _, _, rfl, rfl, ((nv t).length : Int) + 1, rfl, by rw [nv_len]; omega, by rw [nv_len]; omega, ?_⟩
    have en : (((nv t).length : Int) + 1).toNat = t.length + 1 := by rw [nv_len]; omega
    rw [en]
    let Iv : Nat → L2.St → Hp → Prop := fun j σ H1 => ∃ (xs : List V) (done : List (Nat × Nat)) (b : Nat) (v : Option V), σ = [some (.ref a), some (.ref p), some (.int b), v] ∧ Same H H1 ∧ H1 p = some (.lst xs) ∧ LinesAt K (fun c => H c = none ∧ c ≠ p) H1 xs (done.map (restM t)) ∧ done.length ≤ j ∧
      b ≤ j ∧ done ++ linesFrom t (t.length + 1 - j) b j = linesM t
    refine for_it (walk_range (lo := (0 : Int)) (n := t.length + 1)) Iv ⟨[], [], 0, none, rfl, same_new hp, upd_same, ⟨rfl, fun i w0 hw => by simp at hw, List.nodup_nil, fun a h => by simp at h⟩, Nat.le_refl _, Nat.le_refl _, rfl⟩ (fun _ _ _ _ _ => trivial) ?_ ?_
    · rintro j x σ H1 H2 hj ⟨xs, done, b, v, rfl, s1, hp1, hL, hdl, hb, hall⟩ ⟨rfl, rfl⟩
      have ep : (0 : Int) + (j : Int) = (j : Int) := by omega
      have hfu : t.length + 1 - j = (t.length + 1 - (j + 1)) + 1 := by omega
      rw [hfu] at hall
      have hS1 : SqL K H2 a (nv t) := s1.seq hS
      show gName 3 (V.int (0 + (j : Int))) _ _ _
      rw [ep]
      have taken : (j = t.length ∨ t[j]? = some 10) → ∀ D : Ends, (∀ σ H3, Iv (j + 1) σ H3 → D.nx σ H3) → tSeq (tDrop (tBM K "list" rAppend (tVar 1) (tCons (tMake (He.ga K "Line") (sp_Line_init K) [] E0 (tCons (tCall (sp_words_between K) [] E0 (tCons (tVar 0) (tCons (tVar 2) (tCons (tVar 3) tNil)))) (tCons (tVar 3) tNil))) tNil)))
          (tAsg (tOp (rI0 fun i j => V.int (i + j)) (tVar 3) (tC (V.int 1))) (gName 2)) D [some (V.ref a), some (V.ref p), some (V.int b), some (V.int (j : Int))] H2 := by
        intro hc D hD
        unfold linesFrom at hall
        rw [if_pos hc] at hall
        refine ⟨_, rfl, .inl ⟨rfl, _, SqL.of hp1⟩, _, rfl, _, rfl, _, rfl, a, t, b, j, rfl, hS1, hb, by omega, hlen, fun g H3 ys s3 hg hg3 hW => ⟨_, rfl, fun x dx nx nd ne => ⟨x, dx, _, _, rfl, upd_same, fun H4 h4 k4 => ⟨rfl, ?_⟩⟩⟩⟩
        have s4 : Same H3 H4 := fun c o ec => by
          have cx : c ≠ x := ne_of_none ec nx
          rw [k4 c cx, upd_ne cx, upd_ne (ne_of_none ec nd)]
          exact ec
        have p3 : H3 p = some (.lst xs) := s3 _ _ hp1
        have p4 : H4 p = some (.lst xs) := s4 _ _ p3
        have px : x ≠ p := (ne_of_none p3 nx).symm
        have pg : g ≠ p := (ne_of_none hp1 hg).symm
        have hsz : xs.length < sizeLine := by
          rw [hL.len, List.length_map, sizeLine_eq]
          omega
        refine ⟨p, xs, .ref x, rfl, rfl, p4, hsz, _, rfl, _, _, rfl, rfl, ?_⟩
        have kp : ∀ c o, c ≠ p → H4 c = some o → (upd H4 p (.lst (xs ++ [.ref x]))) c = some o := fun c o hcp ec => by
          rw [upd_ne hcp]
          exact ec
        have lx : RestAt K (fun c => H c = none ∧ c ≠ p) H4 x (restM t (b, j)) := by
          refine ⟨(wordsM t b j).map (wordOf t), 0, ⟨dx, g, ys, h4, s4 _ _ hg3, ⟨s1.free hg, pg⟩, hW.1, fun i w0 hw => ?_⟩, Nat.zero_le _, rfl⟩
          obtain ⟨c, ec, dxc, sg, f1, f2, f3, f4⟩ := hW.2 i w0 hw
          refine ⟨c, ec, dxc, sg, s4 _ _ f1, s4 _ _ f2, s1.free f3, ?_⟩
          rintro rfl
          rw [f3] at hp1
          cases hp1
        have hL5 : LinesAt K (fun c => H c = none ∧ c ≠ p) (upd H4 p (.lst (xs ++ [.ref x]))) (xs ++ [.ref x]) ((done ++ [(b, j)]).map (restM t)) := by
          refine ⟨by rw [List.length_append, hL.len, List.map_append, List.length_append]; rfl, fun i r hr => ?_, ?_, fun c hc => ?_⟩
          · rw [List.map_append] at hr
            rcases Nat.lt_or_ge i (done.map (restM t)).length with hi | hi
            · rw [List.getElem?_append_left hi] at hr
              obtain ⟨c, ec, hc2⟩ := hL.at_ i r hr
              exact ⟨c, by rw [List.getElem?_append_left (by rw [hL.len]; exact hi)]; exact ec, ((hc2.same s3).same s4).off (fun _ z => z.2) ⟨xs, p4⟩ kp⟩
            · rw [List.getElem?_append_right hi] at hr
              have z : i - (done.map (restM t)).length = 0 := by
                have := (List.getElem?_eq_some_iff.mp hr).1
                simp at this
                simp
                omega
              rw [z] at hr
              cases hr
              refine ⟨x, ?_, lx.off (fun _ z => z.2) ⟨xs, p4⟩ kp⟩
              rw [List.getElem?_append_right (by rw [hL.len]; exact hi), hL.len, z]
              rfl
          · rw [List.nodup_append]
            refine ⟨hL.nd, by simp, ?_⟩
            rintro y hy z hz rfl
            obtain rfl : y = .ref x := by simpa using hz
            obtain ⟨i, hi, ei⟩ := List.mem_iff_getElem.mp hy
            have hi2 : i < (done.map (restM t)).length := by rw [← hL.len]; exact hi
            obtain ⟨c, ec, hc2⟩ := hL.at_ i _ (List.getElem?_eq_getElem hi2)
            rw [List.getElem?_eq_getElem hi, ei] at ec
            obtain rfl : x = c := V.ref.inj (Option.some.inj ec)
            exact (hc2.same s3).isLine nx
          · rcases List.mem_append.mp hc with hc | hc
            · exact hL.own c hc
            · obtain rfl : c = x := V.ref.inj (by simpa using hc)
              exact ⟨s1.free (s3.free nx), px⟩
        refine hD _ _ ⟨xs ++ [.ref x], done ++ [(b, j)], j + 1, some (.int (j : Int)), rfl, same_upd hp fun c o ec => s4 _ _ (s3 _ _ (s1 _ _ ec)), upd_same, hL5, by rw [List.length_append]; show done.length + 1 ≤ j + 1; omega, Nat.le_refl _, ?_⟩
        rw [List.append_assoc]
        exact hall
      refine ⟨_, rfl, _, rfl, a, _, rfl, .inl hS1, rfl, _, rfl, ?_⟩
      by_cases c1 : V.int (j : Int) = V.int ((nv t).length : Int)
      · exact ifT (decide_eq_true c1) (iteT (taken (.inl (by have := V.int.inj c1; rw [nv_len] at this; omega)) _ fun _ _ h => h))
      · have c1' : j ≠ t.length := fun z => c1 (by rw [z, nv_len])
        have hlt : j < t.length := by omega
        refine ifF (decide_eq_false c1) ⟨_, rfl, _, rfl, a, nv t, (j : Int), .int (t[j] : Nat), rfl, rfl, hS1, atI_nat (by unfold nv; rw [List.getElem?_map, List.getElem?_eq_getElem hlt]; rfl), rfl, _, rfl, ?_⟩
        by_cases c2 : V.int ((t[j] : Nat) : Int) = V.int 10
        · refine ifT (decide_eq_true c2) (taken (.inr ?_) _ fun _ _ h => h)
          have := V.int.inj c2
          rw [List.getElem?_eq_getElem hlt]
          congr 1
          omega
        · refine ifF (decide_eq_false c2) ?_
          unfold linesFrom at hall
          rw [if_neg (by
            rintro (z | z)
            · exact c1' z
            · rw [List.getElem?_eq_getElem hlt] at z
              exact c2 (by rw [Option.some.inj z]; rfl))] at hall
          exact ⟨xs, done, b, _, rfl, s1, hp1, hL, by omega, by omega, hall⟩
    · rintro σ H1 ⟨xs, done, b, v, rfl, s1, hp1, hL, hdl, hb, hall⟩
      refine ⟨_, rfl, q p H1 xs s1 hp hp1 ?_⟩
      have e0 : t.length + 1 - (t.length + 1) = 0 := by omega
      rw [e0] at hall
      have hall : done ++ [] = _ := hall
      rw [List.append_nil] at hall
      rw [← hall]
      exact hL
end
end SJ
end
section
set_option Elab.async false
set_option linter.all false
set_option maxRecDepth 100000
set_option maxHeartbeats 4000000
/-! Names held against each other; a net as objects. -/
namespace SJ
open PySem PySem.Spec PyProof.Rows L2
/-! ## == of two names -/
section
variable {X : Cx}
theorem dpAll_nv {K : PySem.W.Frag} {H : Hp} : ∀ s : List Nat, DpAll K H (nv s) (s.map fun (n : Nat) => PyData.int n)
  | [] => .nil
  | n :: s => .cons (.int _) (dpAll_nv s)
theorem shaped_nv (s : List Nat) : SeqAt.shaped (.list (s.map fun (n : Nat) => PyData.int n)) = true := by
  have h : ∀ s : List Nat, PyData.canLayAll0 (s.map fun (n : Nat) => PyData.int n) = true ∧ PyData.depthAll (s.map fun (n : Nat) => PyData.int n) = 0 := by
    intro s
    induction s with
    | nil => exact ⟨rfl, rfl⟩
    | cons n s ih => exact ⟨by rw [List.map_cons]; simp only [PyData.canLayAll0, PyData.canLay0, ih.1, Bool.and_self], by rw [List.map_cons]; simp only [PyData.depthAll, PyData.depth, ih.2, Nat.max_self]⟩
  unfold SeqAt.shaped
  simp only [PyData.canLay0, PyData.depth, (h s).1, (h s).2]
  rfl
theorem eqv_nv : ∀ s t : List Nat, PyData.eqvAll (s.map fun (n : Nat) => PyData.int n) (t.map fun (n : Nat) => PyData.int n) = decide (s = t)
  | [], [] => rfl
  | [], _ :: _ => rfl
  | _ :: _, [] => rfl
  | a :: s, b :: t => by
    rw [List.map_cons, List.map_cons]
    simp only [PyData.eqvAll, PyData.eqv, eqv_nv s t]
    by_cases h : a = b
    · subst h
      simp
    · have : ((a : Int) == (b : Int)) = false := by
        rw [beq_eq_false_iff_ne]
        omega
      rw [this, Bool.false_and]
      exact (decide_eq_false fun z => h (List.cons.inj z).1).symm
def rEqN (K : PySem.W.Frag) : R2 := fun x y H Q => ∃ a b s t, x = .ref a ∧ y = .ref b ∧ SqL K H a (nv s) ∧ SqL K H b (nv t) ∧ Q (.bl (decide (s = t))) H
theorem op_eqN {k : Nat} (hr : Room k X.A) : OpR X (compareOp .Eq) (rEqN X.K) := by
  intro pins s σ H x y v u Q I rx ry h
  obtain ⟨a, b, s1, s2, rfl, rfl, h1, h2, q⟩ := h
  refine op_eqD hr.units pins s σ H _ _ v u Q I rx ry ⟨_, _, .lst h1 (dpAll_nv s1), .lst h2 (dpAll_nv s2), shaped_nv s1, shaped_nv s2, ?_⟩
  have e : PyData.eqv (.list (s1.map fun (n : Nat) => PyData.int n)) (.list (s2.map fun (n : Nat) => PyData.int n)) = decide (s1 = s2) := by
    simp only [PyData.eqv, eqv_nv]
  rw [e]
  exact q
end
/-! ## things of a net -/
/-- objects for the things, one by one -/
structure Each {α : Type} (R : Addr → α → Prop) (xs : List V) (l : List α) : Prop where
  len : xs.length = l.length
  at_ : ∀ (i : Nat) x, l[i]? = some x → ∃ b, xs[i]? = some (.ref b) ∧ R b x
section
variable {α β : Type} {R R' : Addr → α → Prop} {xs ys : List V} {l m : List α}
theorem Each.nil : Each R [] ([] : List α) := ⟨rfl, fun i x h => by simp at h⟩
theorem Each.mono (h : Each R xs l) (f : ∀ b x, R b x → R' b x) : Each R' xs l := ⟨h.len, fun i x e => let ⟨b, eb, r⟩ := h.at_ i x e; ⟨b, eb, f b x r⟩⟩
theorem Each.snoc {b : Addr} {x : α} (h : Each R xs l) (r : R b x) : Each R (xs ++ [.ref b]) (l ++ [x]) := by
  refine ⟨by rw [List.length_append, List.length_append, h.len]; rfl, fun i y e => ?_⟩
  rcases Nat.lt_or_ge i l.length with hi | hi
  · rw [List.getElem?_append_left hi] at e
    obtain ⟨c, ec, rc⟩ := h.at_ i y e
    exact ⟨c, by rw [List.getElem?_append_left (by rw [h.len]; exact hi)]; exact ec, rc⟩
  · rw [List.getElem?_append_right hi] at e
    have z : i - l.length = 0 := by
      have := (List.getElem?_eq_some_iff.mp e).1
      rw [List.length_singleton] at this
      omega
    rw [z] at e
    obtain rfl : x = y := Option.some.inj e
    exact ⟨b, by rw [List.getElem?_append_right (by rw [h.len]; exact hi), h.len, z]; rfl, r⟩
theorem Each.append (h : Each R xs l) (g : Each R ys m) : Each R (xs ++ ys) (l ++ m) := by
  refine ⟨by rw [List.length_append, List.length_append, h.len, g.len], fun i y e => ?_⟩
  rcases Nat.lt_or_ge i l.length with hi | hi
  · rw [List.getElem?_append_left hi] at e
    obtain ⟨c, ec, rc⟩ := h.at_ i y e
    exact ⟨c, by rw [List.getElem?_append_left (by rw [h.len]; exact hi)]; exact ec, rc⟩
  · rw [List.getElem?_append_right hi] at e
    obtain ⟨c, ec, rc⟩ := g.at_ _ y e
    exact ⟨c, by rw [List.getElem?_append_right (by rw [h.len]; exact hi), h.len]; exact ec, rc⟩
theorem Each.map {f : α → β} {S : Addr → β → Prop} (h : Each R xs l) (k : ∀ b x, R b x → S b (f x)) : Each S xs (l.map f) := by
  refine ⟨by rw [List.length_map, h.len], fun i y e => ?_⟩
  rw [List.getElem?_map] at e
  obtain ⟨x, ex, rfl⟩ := Option.map_eq_some_iff.mp e
  obtain ⟨b, eb, r⟩ := h.at_ i x ex
  exact ⟨b, eb, k b x r⟩
theorem Each.set {b : Addr} {x : α} (h : Each R xs l) (r : R b x) (j : Nat) : Each R (xs.set j (.ref b)) (l.set j x) := by
  refine ⟨by rw [List.length_set, List.length_set, h.len], fun i y e => ?_⟩
  rw [List.getElem?_set] at e
  rw [List.getElem?_set, h.len]
  by_cases c : j = i
  · rw [if_pos c] at e ⊢
    split at e
    · rename_i hl
      rw [if_pos hl]
      obtain rfl : x = y := Option.some.inj e
      exact ⟨b, rfl, r⟩
    · cases e
  · rw [if_neg c] at e ⊢
    exact h.at_ i y e
theorem Each.erase (h : Each R xs l) (j : Nat) (hj : j < l.length) : Each R (xs.eraseIdx j) (l.eraseIdx j) := by
  refine ⟨by rw [List.length_eraseIdx, List.length_eraseIdx, h.len], fun i y e => ?_⟩
  rw [List.getElem?_eraseIdx] at e ⊢
  split at e
  · rename_i c
    rw [if_pos c]
    exact h.at_ i y e
  · rename_i c
    rw [if_neg c]
    exact h.at_ _ y e
/-- the item at i, and what is there -/
theorem Each.get (h : Each R xs l) {i : Nat} {v : V} (e : xs[i]? = some v) : ∃ b x, v = .ref b ∧ l[i]? = some x ∧ R b x := by
  have hi : i < l.length := by rw [← h.len]; exact (List.getElem?_eq_some_iff.mp e).1
  obtain ⟨b, eb, r⟩ := h.at_ i _ (List.getElem?_eq_getElem hi)
  rw [e] at eb
  exact ⟨b, _, Option.some.inj eb, List.getElem?_eq_getElem hi, r⟩
end
section
variable (K : PySem.W.Frag) (S : List Addr) (H : Hp)
def NmAt (sg : Addr) (t : List Nat) : Prop := H sg = some (.lst (nv t)) ∧ sg ∉ S
def PlaceAt (b : Addr) (p : Vbtoad.Place) : Prop := ∃ dx sg, H b = some (.ins (He.ga K "Place") dx [("name", .ref sg), ("handling", .int p.handling)]) ∧ b ∉ S ∧ NmAt S H sg p.name
def CarAt (b : Addr) (c : Vbtoad.Car) : Prop := ∃ dx sg, H b = some (.ins (He.ga K "Car") dx [("name", .ref sg), ("origin", .int c.from_), ("end", .int c.to_), ("minutes", .int c.long)]) ∧ b ∉ S ∧ NmAt S H sg c.name
def GoAt (b : Addr) (g : Vbtoad.Go) : Prop := ∃ dx sg, H b = some (.ins (He.ga K "Departure") dx [("name", .ref sg), ("origin", .int g.from_), ("leaves", .int g.dep), ("end", .int g.to_), ("comes", .int g.arr)]) ∧ b ∉ S ∧ NmAt S H sg g.name
/-- the net's object at a, its lists at lp, lc, ld -/
structure NetIs (a lp lc ld : Addr) (n : Vbtoad.Net) : Prop where
  own : (∃ dx, H a = some (.ins (He.ga K "Net") dx [("places", .ref lp), ("cars", .ref lc), ("departures", .ref ld)])) ∧ a ∉ S
  ps : ∃ xs, H lp = some (.lst xs) ∧ Each (PlaceAt K S H) xs n.places
  cs : ∃ xs, H lc = some (.lst xs) ∧ Each (CarAt K S H) xs n.cars
  ds : ∃ xs, H ld = some (.lst xs) ∧ Each (GoAt K S H) xs n.goes
/-- .. and nothing of it will change -/
def NetAt (a : Addr) (n : Vbtoad.Net) : Prop := ∃ lp lc ld, NetIs K S H a lp lc ld n ∧ lp ∉ S ∧ lc ∉ S ∧ ld ∉ S
end
section
variable {K : PySem.W.Frag} {S S' : List Addr} {H H' : Hp}
theorem PlaceAt.keep {b : Addr} {p : Vbtoad.Place} (h : PlaceAt K S H b p) (k : Keeps S H H') : PlaceAt K S H' b p := let ⟨dx, sg, e1, e2, e3, e4⟩ := h; ⟨dx, sg, k _ _ e2 e1, e2, k _ _ e4 e3, e4⟩
theorem CarAt.keep {b : Addr} {p : Vbtoad.Car} (h : CarAt K S H b p) (k : Keeps S H H') : CarAt K S H' b p := let ⟨dx, sg, e1, e2, e3, e4⟩ := h; ⟨dx, sg, k _ _ e2 e1, e2, k _ _ e4 e3, e4⟩
theorem GoAt.keep {b : Addr} {p : Vbtoad.Go} (h : GoAt K S H b p) (k : Keeps S H H') : GoAt K S H' b p := let ⟨dx, sg, e1, e2, e3, e4⟩ := h; ⟨dx, sg, k _ _ e2 e1, e2, k _ _ e4 e3, e4⟩
theorem PlaceAt.less {b : Addr} {p : Vbtoad.Place} (h : PlaceAt K S H b p) (k : ∀ c, c ∉ S → c ∉ S') : PlaceAt K S' H b p := let ⟨dx, sg, e1, e2, e3, e4⟩ := h; ⟨dx, sg, e1, k _ e2, e3, k _ e4⟩
theorem CarAt.less {b : Addr} {p : Vbtoad.Car} (h : CarAt K S H b p) (k : ∀ c, c ∉ S → c ∉ S') : CarAt K S' H b p := let ⟨dx, sg, e1, e2, e3, e4⟩ := h; ⟨dx, sg, e1, k _ e2, e3, k _ e4⟩
theorem GoAt.less {b : Addr} {p : Vbtoad.Go} (h : GoAt K S H b p) (k : ∀ c, c ∉ S → c ∉ S') : GoAt K S' H b p := let ⟨dx, sg, e1, e2, e3, e4⟩ := h; ⟨dx, sg, e1, k _ e2, e3, k _ e4⟩
theorem notIn_more {N : List Addr} {c : Addr} {o : HO} (e : H c = some o) (f : ∀ c ∈ N, H c = none) (h : c ∉ S) : c ∉ N ++ S := fun m => by
  rcases List.mem_append.mp m with m | m
  · rw [f c m] at e
    cases e
  · exact h m
theorem PlaceAt.more {N : List Addr} {b : Addr} {p : Vbtoad.Place} (h : PlaceAt K S H b p) (f : ∀ c ∈ N, H c = none) : PlaceAt K (N ++ S) H b p := let ⟨dx, sg, e1, e2, e3, e4⟩ := h; ⟨dx, sg, e1, notIn_more e1 f e2, e3, notIn_more e3 f e4⟩
theorem CarAt.more {N : List Addr} {b : Addr} {p : Vbtoad.Car} (h : CarAt K S H b p) (f : ∀ c ∈ N, H c = none) : CarAt K (N ++ S) H b p := let ⟨dx, sg, e1, e2, e3, e4⟩ := h; ⟨dx, sg, e1, notIn_more e1 f e2, e3, notIn_more e3 f e4⟩
theorem GoAt.more {N : List Addr} {b : Addr} {p : Vbtoad.Go} (h : GoAt K S H b p) (f : ∀ c ∈ N, H c = none) : GoAt K (N ++ S) H b p := let ⟨dx, sg, e1, e2, e3, e4⟩ := h; ⟨dx, sg, e1, notIn_more e1 f e2, e3, notIn_more e3 f e4⟩
/-- the lists change only where told -/
theorem NetIs.keep {a lp lc ld : Addr} {n : Vbtoad.Net} (h : NetIs K S H a lp lc ld n) (k : Keeps S H H') (hp : H' lp = H lp) (hc : H' lc = H lc) (hd : H' ld = H ld) : NetIs K S H' a lp lc ld n :=
  ⟨⟨let ⟨dx, e⟩ := h.own.1; ⟨dx, k _ _ h.own.2 e⟩, h.own.2⟩, let ⟨xs, e, r⟩ := h.ps; ⟨xs, hp.trans e, r.mono fun _ _ z => z.keep k⟩, let ⟨xs, e, r⟩ := h.cs; ⟨xs, hc.trans e, r.mono fun _ _ z => z.keep k⟩, let ⟨xs, e, r⟩ := h.ds; ⟨xs, hd.trans e, r.mono fun _ _ z => z.keep k⟩⟩
theorem NetIs.less {a lp lc ld : Addr} {n : Vbtoad.Net} (h : NetIs K S H a lp lc ld n) (k : ∀ c, c ∉ S → c ∉ S') : NetIs K S' H a lp lc ld n :=
  ⟨⟨h.own.1, k _ h.own.2⟩, let ⟨xs, e, r⟩ := h.ps; ⟨xs, e, r.mono fun _ _ z => z.less k⟩, let ⟨xs, e, r⟩ := h.cs; ⟨xs, e, r.mono fun _ _ z => z.less k⟩, let ⟨xs, e, r⟩ := h.ds; ⟨xs, e, r.mono fun _ _ z => z.less k⟩⟩
theorem NetAt.keep {a : Addr} {n : Vbtoad.Net} (h : NetAt K S H a n) (k : Keeps S H H') : NetAt K S H' a n := by
  obtain ⟨lp, lc, ld, ⟨⟨⟨dx, e⟩, ea⟩, ⟨ps, ep, rp⟩, ⟨cs, ec, rc⟩, ⟨ds, ed, rd⟩⟩, h1, h2, h3⟩ := h
  exact ⟨lp, lc, ld, ⟨⟨⟨dx, k _ _ ea e⟩, ea⟩, ⟨ps, k _ _ h1 ep, rp.mono fun _ _ z => z.keep k⟩, ⟨cs, k _ _ h2 ec, rc.mono fun _ _ z => z.keep k⟩, ⟨ds, k _ _ h3 ed, rd.mono fun _ _ z => z.keep k⟩⟩, h1, h2, h3⟩
theorem NetAt.less {a : Addr} {n : Vbtoad.Net} (h : NetAt K S H a n) (k : ∀ c, c ∉ S → c ∉ S') : NetAt K S' H a n := let ⟨lp, lc, ld, i, h1, h2, h3⟩ := h; ⟨lp, lc, ld, i.less k, k _ h1, k _ h2, k _ h3⟩
theorem NetAt.same {a : Addr} {n : Vbtoad.Net} (h : NetAt K S H a n) (k : Same H H') : NetAt K S H' a n := h.keep (Same.keeps k)
end
/-- all the addresses are in use -/
def Used (S : List Addr) (H : Hp) : Prop := ∀ c ∈ S, H c ≠ none
theorem Used.new {S : List Addr} {H : Hp} {c : Addr} (h : Used S H) (e : H c = none) : c ∉ S := fun m => h c m e
theorem Used.same {S : List Addr} {H H' : Hp} (h : Used S H) (k : Same H H') : Used S H' := fun c m z => by
  cases e : H c with
  | none => exact h c m e
  | some o =>
    rw [k c o e] at z
    cases z
end SJ
end
section
set_option Elab.async false
set_option linter.all false
set_option maxRecDepth 100000
set_option maxHeartbeats 4000000
/-! The defs of net.py. -/
namespace SJ
open PySem PySem.Spec PyProof.Rows L2
section
variable {P : Program} {w : World} {K : PySem.W.Frag} {mg : Str → Option Value} {base : Heap}
def sp_Net_init (K : PySem.W.Frag) : Sp := fun vs H Q _ => ∃ (p dx : Addr), vs = [.ref p] ∧ H p = some (.ins (He.ga K "Net") dx []) ∧ ∀ H1 lp lc ld, H lp = none → H lc = none → H ld = none → lc ≠ lp → ld ≠ lp → ld ≠ lc → H1 p = some (.ins (He.ga K "Net") dx [("places", .ref lp), ("cars", .ref lc), ("departures", .ref ld)]) →
  H1 lp = some (.lst []) → H1 lc = some (.lst []) → H1 ld = some (.lst []) → (∀ b o, b ≠ p → H b = some o → H1 b = some o) → Q .non H1
theorem sc_Net_init : FnScope ["self"] ["self"] d_Net_init.scope := ⟨rfl, rfl, rfl, by decide +kernel, rfl, by decide +kernel, by decide +kernel⟩
theorem ok_Net_init (T : Fx K mg base) : Mk0 P w K mg base 1 "Net" (sp_Net_init K) := by
  obtain ⟨fd, F⟩ := F_Net_init T
  refine ⟨⟨_, fd, ["self"], m_Net T, F.ok sc_Net_init (fun vs H Q E h => ?_) (fun cdv A outer s H vs Q E hr h => ⟨_, PSs.nox (pss_cons (ps_fld (pv 0) (pe_lst (pa_nil)) rfl) (pss_cons (ps_fld (pv 0) (pe_lst (pa_nil)) rfl) (pss_one (ps_fld (pv 0) (pe_lst (pa_nil)) rfl)))), ?_⟩), g_Net T, F.bindsN (fun _ _ _ _ _ _ us hl => match us, hl with | [_], _ => rfl)⟩⟩
  · obtain ⟨p, dx, rfl, _⟩ := h
    rfl
  · obtain ⟨p, dx, rfl, hp, k⟩ := h
    refine ⟨Nat.zero_le _, fun lp h1 => ⟨_, rfl, p, _, dx, _, rfl, by rw [upd_ne (ne_of_none hp h1)]; exact hp, c_Net T, n_Net_places T, (by show 0 < 1000; decide), ?_⟩⟩
    have n1 : lp ≠ p := (ne_of_none hp h1).symm
    refine ⟨Nat.zero_le _, fun lc h2 => ⟨_, rfl, p, _, dx, _, rfl, by rw [upd_ne (by rintro rfl; rw [upd_same] at h2; cases h2)]; exact upd_same, c_Net T, n_Net_cars T, (by show 1 < 1000; decide), ?_⟩⟩
    have n2 : lc ≠ p := by
      rintro rfl
      rw [upd_same] at h2
      cases h2
    rw [upd_ne n2] at h2
    have n3 : lc ≠ lp := by
      rintro rfl
      rw [upd_same] at h2
      cases h2
    rw [upd_ne n3] at h2
    refine ⟨Nat.zero_le _, fun ld h3 => ⟨_, rfl, p, _, dx, _, rfl, by rw [upd_ne (by rintro rfl; rw [upd_same] at h3; cases h3)]; exact upd_same, c_Net T, n_Net_departures T, (by show 2 < 1000; decide), ?_⟩⟩
    have n4 : ld ≠ p := by
      rintro rfl
      rw [upd_same] at h3
      cases h3
    rw [upd_ne n4] at h3
    have n5 : ld ≠ lc := by
      rintro rfl
      rw [upd_same] at h3
      cases h3
    rw [upd_ne n5, upd_ne n4] at h3
    have n6 : ld ≠ lp := by
      rintro rfl
      rw [upd_same] at h3
      cases h3
    rw [upd_ne n6] at h3
    refine k _ lp lc ld h1 h2 h3 n3 n6 n5 upd_same ?_ ?_ ?_ fun b o hb e => ?_
    · rw [upd_ne n1, upd_ne n6.symm, upd_ne n1, upd_ne n3.symm, upd_ne n1, upd_same]
    · rw [upd_ne n2, upd_ne n5.symm, upd_ne n2, upd_same]
    · rw [upd_ne n4, upd_same]
    · rw [upd_ne hb, upd_ne (ne_of_none e h3), upd_ne hb, upd_ne (ne_of_none e h2), upd_ne hb, upd_ne (ne_of_none e h1)]
      exact e
theorem none_back {H G : Hp} {c : Addr} (k : ∀ o, H c = some o → G c = some o) (h : G c = none) : H c = none := by
  cases e : H c with
  | none => rfl
  | some o =>
    rw [k o e] at h
    cases h
/-! ## a net's copy: new lists of the same things -/
def sp_copy_of_net (K : PySem.W.Frag) : Sp := fun vs H Q _ => ∃ (S : List Addr) (a : Addr) (n : Vbtoad.Net), vs = [.ref a] ∧ Used S H ∧ NetAt K S H a n ∧
  ∀ b lp lc ld H1, Same H H1 → H b = none → H lp = none → H lc = none → H ld = none → lp ≠ b → lc ≠ b → ld ≠ b → lc ≠ lp → ld ≠ lp → ld ≠ lc → NetIs K ([lp, lc, ld] ++ S) H1 b lp lc ld n → Q (.ref b) H1
theorem sc_copy_of_net : FnScope ["net", "other"] ["net"] d_copy_of_net.scope := ⟨rfl, rfl, rfl, by decide +kernel, rfl, by decide +kernel, by decide +kernel⟩
theorem ok_copy_of_net (T : Fx K mg base) : Fn0 P w K mg base 3 "copy_of_net" (sp_copy_of_net K) := by
  obtain ⟨fd, F⟩ := F_copy_of_net T
  refine ⟨⟨_, fd, ["net"], F.ok sc_copy_of_net (fun vs H Q E h => ?_) (fun cdv A outer s H vs Q E hr h => ⟨_, PSs.nox (pss_cons (ps_set (i := 1) sc_copy_of_net.nd rfl (Or.inl rfl) (pe_k00 (ok_Net_init T) hr (by decide) rfl)) (pss_cons (ps_fld (pv 1) (pe_callTy call_list_of (by rfl) (b_list T) (by decide +kernel) (pa_cons (pe_fld (pv 0) rfl) pa_nil)) rfl) (pss_cons (ps_fld (pv 1) (pe_callTy call_list_of (by rfl) (b_list T) (by decide +kernel) (pa_cons (pe_fld (pv 0) rfl) pa_nil)) rfl) (pss_cons (ps_fld (pv 1) (pe_callTy call_list_of (by rfl) (b_list T) (by decide +kernel) (pa_cons (pe_fld (pv 0) rfl) pa_nil)) rfl) (pss_one (ps_ret (pv 1))))))), ?_⟩), g_copy_of_net T, F.kp, F.bindsN (fun _ _ _ _ _ _ us hl => match us, hl with | [_], _ => rfl)⟩⟩
  · obtain ⟨S, a, n, rfl, _⟩ := h
    rfl
  · obtain ⟨S, a, n, rfl, hU, ⟨p0, c0, d0, ⟨⟨⟨dx0, e0⟩, ea⟩, ⟨ps, ep, rp⟩, ⟨cs, ec, rc⟩, ⟨ds, ed, rd⟩⟩, u1, u2, u3⟩, q⟩ := h
    intro b dx nb nd ne
    refine ⟨b, dx, rfl, upd_same, fun H1 l1 l2 l3 f1 f2 f3 _ _ _ hb _ _ _ k => ⟨rfl, ?_⟩⟩
    have s1 : Same H H1 := fun c o e => k c o (ne_of_none e nb) (by rw [upd_ne (ne_of_none e nb), upd_ne (ne_of_none e nd)]; exact e)
    refine ⟨_, rfl, a, _, dx0, _, _, rfl, s1 _ _ e0, c_Net T, n_Net_places T, rfl, p0, ps, rfl, .inl (SqL.of (s1 _ _ ep)), fun lp h1 => ⟨_, rfl, b, _, dx, _, rfl, by rw [upd_ne (ne_of_none hb h1)]; exact hb, c_Net T, n_Net_places T, (by show 3 < 1000; decide), ?_⟩⟩
    have b1 : lp ≠ b := (ne_of_none hb h1).symm
    let G1 : Hp := upd (upd H1 lp (.lst ps)) b (.ins (He.ga K "Net") dx (putF "places" (.ref lp) [("places", .ref l1), ("cars", .ref l2), ("departures", .ref l3)]))
    have g1b : G1 b = some (.ins (He.ga K "Net") dx [("places", .ref lp), ("cars", .ref l2), ("departures", .ref l3)]) := upd_same
    have g1p : G1 lp = some (.lst ps) := by show upd (upd H1 lp _) b _ _ = _; rw [upd_ne b1, upd_same]
    have t1 : ∀ c o, c ≠ b → H1 c = some o → G1 c = some o := fun c o hc e => by show upd (upd H1 lp _) b _ _ = _; rw [upd_ne hc, upd_ne (ne_of_none e h1)]; exact e
    have sb : ∀ c o, H c = some o → c ≠ b := fun c o e => ne_of_none e nb
    refine ⟨_, rfl, a, _, dx0, _, _, rfl, t1 _ _ (sb _ _ e0) (s1 _ _ e0), c_Net T, n_Net_cars T, rfl, c0, cs, rfl, .inl (SqL.of (t1 _ _ (sb _ _ ec) (s1 _ _ ec))), fun lc h2 => ⟨_, rfl, b, _, dx, _, rfl, by rw [upd_ne (ne_of_none g1b h2)]; exact g1b, c_Net T, n_Net_cars T, (by show 3 < 1000; decide), ?_⟩⟩
    have b2 : lc ≠ b := (ne_of_none g1b h2).symm
    have b2p : lc ≠ lp := (ne_of_none g1p h2).symm
    let G2 : Hp := upd (upd G1 lc (.lst cs)) b (.ins (He.ga K "Net") dx (putF "cars" (.ref lc) [("places", .ref lp), ("cars", .ref l2), ("departures", .ref l3)]))
    have g2b : G2 b = some (.ins (He.ga K "Net") dx [("places", .ref lp), ("cars", .ref lc), ("departures", .ref l3)]) := upd_same
    have g2c : G2 lc = some (.lst cs) := by show upd (upd G1 lc _) b _ _ = _; rw [upd_ne b2, upd_same]
    have t2 : ∀ c o, c ≠ b → G1 c = some o → G2 c = some o := fun c o hc e => by show upd (upd G1 lc _) b _ _ = _; rw [upd_ne hc, upd_ne (ne_of_none e h2)]; exact e
    refine ⟨_, rfl, a, _, dx0, _, _, rfl, t2 _ _ (sb _ _ e0) (t1 _ _ (sb _ _ e0) (s1 _ _ e0)), c_Net T, n_Net_departures T, rfl, d0, ds, rfl, .inl (SqL.of (t2 _ _ (sb _ _ ed) (t1 _ _ (sb _ _ ed) (s1 _ _ ed)))), fun ld h3 => ⟨_, rfl, b, _, dx, _, rfl, by rw [upd_ne (ne_of_none g2b h3)]; exact g2b, c_Net T, n_Net_departures T, (by show 3 < 1000; decide), ?_⟩⟩
    have b3 : ld ≠ b := (ne_of_none g2b h3).symm
    have b3c : ld ≠ lc := (ne_of_none g2c h3).symm
    have b3p : ld ≠ lp := (ne_of_none (t2 _ _ b1 g1p) h3).symm
    let G3 : Hp := upd (upd G2 ld (.lst ds)) b (.ins (He.ga K "Net") dx (putF "departures" (.ref ld) [("places", .ref lp), ("cars", .ref lc), ("departures", .ref l3)]))
    have g3b : G3 b = some (.ins (He.ga K "Net") dx [("places", .ref lp), ("cars", .ref lc), ("departures", .ref ld)]) := upd_same
    have g3d : G3 ld = some (.lst ds) := by show upd (upd G2 ld _) b _ _ = _; rw [upd_ne b3, upd_same]
    have t3 : ∀ c o, c ≠ b → G2 c = some o → G3 c = some o := fun c o hc e => by show upd (upd G2 ld _) b _ _ = _; rw [upd_ne hc, upd_ne (ne_of_none e h3)]; exact e
    have s3 : Same H G3 := fun c o e => t3 _ _ (sb _ _ e) (t2 _ _ (sb _ _ e) (t1 _ _ (sb _ _ e) (s1 _ _ e)))
    have f1' : H lp = none := s1.free h1
    have f2' : H lc = none := none_back (fun o e => t1 _ _ b2 (s1 _ _ e)) h2
    have f3' : H ld = none := none_back (fun o e => t2 _ _ b3 (t1 _ _ b3 (s1 _ _ e))) h3
    have fr : ∀ c ∈ [lp, lc, ld], H c = none := by
      intro c hc
      simp only [List.mem_cons, List.not_mem_nil, or_false] at hc
      rcases hc with rfl | rfl | rfl
      · exact f1'
      · exact f2'
      · exact f3'
    refine ⟨_, rfl, q b lp lc ld G3 s3 nb f1' f2' f3' b1 b2 b3 b2p b3p b3c ⟨⟨⟨dx, g3b⟩, fun hm => ?_⟩, ⟨ps, t3 _ _ b1 (t2 _ _ b1 g1p), rp.mono fun _ _ y => (y.more fr).keep (Same.keeps s3)⟩, ⟨cs, t3 _ _ b2 g2c, rc.mono fun _ _ y => (y.more fr).keep (Same.keeps s3)⟩, ⟨ds, g3d, rd.mono fun _ _ y => (y.more fr).keep (Same.keeps s3)⟩⟩⟩
    rcases List.mem_append.mp hm with hm | hm
    · simp only [List.mem_cons, List.not_mem_nil, or_false] at hm
      rcases hm with z | z | z
      · exact b1 z.symm
      · exact b2 z.symm
      · exact b3 z.symm
    · exact hU.new nb hm
/-! ## the first thing with a name -/
def NamedAt (K : PySem.W.Frag) (H : Hp) (b : Addr) (t : List Nat) : Prop := ∃ C dx fs sg, H b = some (.ins C dx fs) ∧ Cls K C ∧ NoAttr K C "name" ∧ fs.lookup ("name" : Str) = some (V.ref sg) ∧ H sg = some (.lst (nv t))
theorem NamedAt.same {H H' : Hp} {b : Addr} {t : List Nat} (h : NamedAt K H b t) (s : Same H H') : NamedAt K H' b t := let ⟨C, dx, fs, sg, e1, e2, e3, e4, e5⟩ := h; ⟨C, dx, fs, sg, s _ _ e1, e2, e3, e4, s _ _ e5⟩
theorem PlaceAt.named (T : Fx K mg base) {S : List Addr} {H : Hp} {b : Addr} {p : Vbtoad.Place} (h : PlaceAt K S H b p) : NamedAt K H b p.name := let ⟨dx, sg, e1, e2, e3, e4⟩ := h; ⟨_, dx, _, sg, e1, c_Place T, n_Place_name T, rfl, e3⟩
theorem CarAt.named (T : Fx K mg base) {S : List Addr} {H : Hp} {b : Addr} {p : Vbtoad.Car} (h : CarAt K S H b p) : NamedAt K H b p.name := let ⟨dx, sg, e1, e2, e3, e4⟩ := h; ⟨_, dx, _, sg, e1, c_Car T, n_Car_name T, rfl, e3⟩
theorem GoAt.named (T : Fx K mg base) {S : List Addr} {H : Hp} {b : Addr} {p : Vbtoad.Go} (h : GoAt K S H b p) : NamedAt K H b p.name := let ⟨dx, sg, e1, e2, e3, e4⟩ := h; ⟨_, dx, _, sg, e1, c_Departure T, n_Departure_name T, rfl, e3⟩
/-- a number, or -1 -/
def orMinus (o : Option Nat) : Int := match o with
  | some i => (i : Nat)
  | none => -1
def sp_number_of_name (K : PySem.W.Frag) : Sp := fun vs H Q _ => ∃ (a nm : Addr) (xs : List V) (ts : List (List Nat)) (t : List Nat), vs = [.ref a, .ref nm] ∧ SqL K H a xs ∧ Each (NamedAt K H) xs ts ∧ SqL K H nm (nv t) ∧ ∀ H1, Same H H1 → Q (.int (orMinus (ts.findIdx? fun x => x == t))) H1
theorem sc_number_of_name : FnScope ["things", "name", "number", "thing"] ["things", "name"] d_number_of_name.scope := ⟨rfl, rfl, rfl, by decide +kernel, rfl, by decide +kernel, by decide +kernel⟩
theorem ok_number_of_name (T : Fx K mg base) : Fn0 P w K mg base 1 "number_of_name" (sp_number_of_name K) := by
  obtain ⟨fd, F⟩ := F_number_of_name T
  refine ⟨⟨_, fd, ["things", "name"], F.ok sc_number_of_name (fun vs H Q E h => ?_) (fun cdv A outer s H vs Q E hr h => ⟨_, PSs.nox (pss_cons (ps_for PassesOwn.never rfl (pi_enum (by rfl) (b_enumerate T) (pa_cons (pv 0) pa_nil)) (pg_tup rfl (pgs_cons (pg_name (i := 2) sc_number_of_name.nd rfl (Or.inl rfl)) (pgs_cons (pg_name (i := 3) sc_number_of_name.nd rfl (Or.inl rfl)) pgs_nil))) (pss_one (ps_if (pt_cmpR (op_eqN hr) (pe_fld (pv 3) rfl) (pv 1) (nomark _)) (pss_one (ps_ret (pv 2))) (pss_nil)))) (pss_one (ps_ret (pe_un un_neg (pe_int))))), ?_⟩), g_number_of_name T, F.kp, F.bindsN (fun _ _ _ _ _ _ us hl => match us, hl with | [_, _], _ => rfl)⟩⟩
  · obtain ⟨a, nm, xs, ts, t, rfl, _⟩ := h
    rfl
  · obtain ⟨a, nm, xs, ts, t, rfl, hA, hE, hN, q⟩ := h
    refine ⟨_, rfl, a, xs, rfl, hA, for_it (walk_enum (xs := xs)) (fun i σ H1 => ∃ v1 v2, σ = [some (.ref a), some (.ref nm), v1, v2] ∧ Same H H1 ∧ ∀ j x, j < i → ts[j]? = some x → x ≠ t) ⟨none, none, rfl, Same.refl H, fun j x hj => by omega⟩ (fun i σ H1 _ ⟨_, _, _, s, _⟩ => s.seq hA) ?_ ?_⟩
    · rintro i x σ H1 H2 hi ⟨v1, v2, rfl, s1, hno⟩ ⟨tp, y, z, rfl, htp, rfl, hy, hz⟩
      obtain rfl := Option.some.inj hy
      obtain ⟨b, tx, rfl, htx, hb⟩ := hE.get hz
      have s2 : Same H1 (upd H1 tp (.tup [.int (i : Nat), .ref b])) := same_new htp
      obtain ⟨C, dx, fs, sg, e1, e2, e3, e4, e5⟩ := (hb.same s1).same s2
      refine ⟨tp, _, rfl, SqT.of upd_same, rfl, _, _, rfl, _, _, rfl, rfl, ?_⟩
      refine ⟨_, rfl, b, C, dx, fs, _, rfl, e1, e2, e3, e4, _, rfl, sg, nm, tx, t, rfl, rfl, SqL.of e5, s2.seq (s1.seq hN), _, rfl, ?_⟩
      by_cases c : tx = t
      · refine ifT (decide_eq_true c) ⟨_, rfl, ?_⟩
        have : ts.findIdx? (fun x => x == t) = some i := by
          rw [List.findIdx?_eq_some_iff_getElem]
          obtain ⟨hil, hie⟩ := List.getElem?_eq_some_iff.mp htx
          refine ⟨hil, by rw [hie, c]; exact beq_self_eq_true t, fun j hj z => ?_⟩
          exact hno j _ hj (List.getElem?_eq_getElem _) (eq_of_beq z)
        have q := q _ (s1.trans s2)
        rw [this] at q
        exact q
      · refine ifF (decide_eq_false c) ⟨_, _, rfl, s1.trans s2, fun j x hj hx => ?_⟩
        rcases Nat.lt_or_ge j i with h | h
        · exact hno j x h hx
        · have : j = i := by omega
          subst this
          rw [htx] at hx
          rw [← Option.some.inj hx]
          exact c
    · rintro σ H1 ⟨v1, v2, rfl, s1, hno⟩
      have : ts.findIdx? (fun x => x == t) = none := by
        rw [List.findIdx?_eq_none_iff]
        intro x hx
        obtain ⟨j, hj, rfl⟩ := List.mem_iff_getElem.mp hx
        rw [beq_eq_false_iff_ne]
        exact hno j _ (by rw [hE.len]; exact hj) (List.getElem?_eq_getElem hj)
      have q := q _ s1
      rw [this] at q
      exact ⟨_, rfl, q⟩
end
end SJ
end
section
set_option Elab.async false
set_option linter.all false
set_option maxRecDepth 100000
set_option maxHeartbeats 4000000
/-! The defs of net.py, the rest. -/
namespace SJ
open PySem PySem.Spec PyProof.Rows L2
section
variable {P : Program} {w : World} {K : PySem.W.Frag} {mg : Str → Option Value} {base : Heap}
abbrev cNoName (K : PySem.W.Frag) : Value := .ref (He.ga K "NoSuchName")
abbrev cTimes (K : PySem.W.Frag) : Value := .ref (He.ga K "OutsideTimes")
theorem goAt_is (n : Vbtoad.Net) (t : List Nat) : ((n.goes.map fun g => g.name).findIdx? fun x => x == t) = Vbtoad.goAt n t := by
  unfold Vbtoad.goAt
  rw [List.findIdx?_map]
  rfl
def sp_number_of_departure (K : PySem.W.Frag) : Sp := fun vs H Q E => ∃ (S : List Addr) (a nm : Addr) (n : Vbtoad.Net) (t : List Nat), vs = [.ref a, .ref nm] ∧ NetAt K S H a n ∧ SqL K H nm (nv t) ∧
  (Vbtoad.goAt n t = none → ∀ H1, Same H H1 → E (cNoName K) none H1) ∧ ∀ i, Vbtoad.goAt n t = some i → ∀ H1, Same H H1 → Q (.int (i : Nat)) H1
theorem sc_number_of_departure : FnScope ["net", "name", "number"] ["net", "name"] d_number_of_departure.scope := ⟨rfl, rfl, rfl, by decide +kernel, rfl, by decide +kernel, by decide +kernel⟩
theorem ok_number_of_departure (T : Fx K mg base) : FnX P w K mg base 2 "number_of_departure" (sp_number_of_departure K) := by
  obtain ⟨fd, F⟩ := F_number_of_departure T
  refine ⟨⟨_, fd, ["net", "name"], F.ok sc_number_of_departure (fun vs H Q E h => ?_) (fun cdv A outer s H vs Q E hr h => ⟨_, pss_cons (ps_set (i := 2) sc_number_of_departure.nd rfl (Or.inl rfl) (pe_c0 (ok_number_of_name T) hr (by decide) rfl (pa_cons (pe_fld (pv 0) rfl) (pa_cons (pv 1) pa_nil)))) (pss_cons (ps_if (pt_cmpR op_lt (pv 2) (pe_int) (nomark _)) (pss_one (ps_raise0 rfl (T.exc rfl (g_NoSuchName T)) (takes_of rfl rfl rfl rfl) rfl)) (pss_nil)) (pss_one (ps_ret (pv 2)))), ?_⟩), g_number_of_departure T, F.kp, F.bindsN (fun _ _ _ _ _ _ us hl => match us, hl with | [_, _], _ => rfl)⟩⟩
  · obtain ⟨S, a, nm, n, t, rfl, _⟩ := h
    rfl
  · obtain ⟨S, a, nm, n, t, rfl, ⟨lp, lc, ld, ⟨⟨⟨dx, e⟩, ea⟩, _, _, ⟨ds, ed, rd⟩⟩, u1, u2, u3⟩, hN, k1, k2⟩ := h
    refine ⟨_, rfl, a, _, dx, _, _, rfl, e, c_Net T, n_Net_departures T, rfl, _, rfl, ld, nm, ds, n.goes.map (fun g => g.name), t, rfl, SqL.of ed, rd.map (f := fun g => g.name) (fun b g z => GoAt.named (S := S) T z), hN, fun H1 s1 => ?_⟩
    rw [goAt_is]
    refine ⟨_, rfl, _, _, rfl, rfl, _, rfl, ?_⟩
    cases c : Vbtoad.goAt n t with
    | none => exact ifT (decide_eq_true (by show (-1 : Int) < 0; decide)) (k1 c H1 s1)
    | some i => exact ifF (decide_eq_false (by show ¬ ((i : Nat) : Int) < 0; omega)) ⟨_, rfl, k2 i c H1 s1⟩
theorem seqIx_nat {i m : Nat} (h : i < m) : seqIndex? (i : Int) m = some i := by
  unfold seqIndex?
  have e : (if (i : Int) < 0 then (i : Int) + (m : Int) else (i : Int)) = i := if_neg (by omega)
  simp only [e]
  rw [if_pos (by rw [Bool.and_eq_true]; exact ⟨decide_eq_true (by omega), decide_eq_true (by omega)⟩), Int.toNat_natCast]
theorem ixN_nat {i m : Nat} (h : i < m) : ixN m (i : Int) = some i := by
  unfold ixN
  rw [if_pos (by omega), if_pos (by omega), Int.toNat_natCast]
def sp_net_without (K : PySem.W.Frag) : Sp := fun vs H Q E => ∃ (S : List Addr) (a nm : Addr) (n : Vbtoad.Net) (t : List Nat), vs = [.ref a, .ref nm] ∧ Used S H ∧ NetAt K S H a n ∧ SqL K H nm (nv t) ∧ n.goes.length ≤ 1000 ∧
  (Vbtoad.goAt n t = none → ∀ H1, Same H H1 → E (cNoName K) none H1) ∧ ∀ i, Vbtoad.goAt n t = some i → ∀ b H1, Same H H1 → NetAt K S H1 b { n with goes := n.goes.eraseIdx i } → Q (.ref b) H1
theorem goAt_lt {n : Vbtoad.Net} {t : List Nat} {i : Nat} (h : Vbtoad.goAt n t = some i) : i < n.goes.length := by
  unfold Vbtoad.goAt at h
  exact (List.findIdx?_eq_some_iff_getElem.mp h).1
theorem sc_net_without : FnScope ["net", "name", "number", "other"] ["net", "name"] d_net_without.scope := ⟨rfl, rfl, rfl, by decide +kernel, rfl, by decide +kernel, by decide +kernel⟩
theorem ok_net_without (T : Fx K mg base) : FnX P w K mg base 4 "net_without" (sp_net_without K) := by
  obtain ⟨fd, F⟩ := F_net_without T
  refine ⟨⟨_, fd, ["net", "name"], F.ok sc_net_without (fun vs H Q E h => ?_) (fun cdv A outer s H vs Q E hr h => ⟨_, pss_cons (ps_set (i := 2) sc_net_without.nd rfl (Or.inl rfl) (pe_cx (ok_number_of_departure T) hr (by decide) rfl (takes_of rfl rfl rfl rfl) (pa_cons (pv 0) (pa_cons (pv 1) pa_nil)))) (pss_cons (ps_set (i := 3) sc_net_without.nd rfl (Or.inl rfl) (pe_c0 (ok_copy_of_net T) hr (by decide) rfl (pa_cons (pv 0) pa_nil))) (pss_cons (ps_expr (pe_bm PySem.F.plainAttrs_list PySem.F.slot_list_pop PySem.F.type_list_pop mt_popAt (pe_fld (pv 3) rfl) (pa_cons (pv 2) pa_nil))) (pss_one (ps_ret (pv 3))))), ?_⟩), g_net_without T, F.kp, F.bindsN (fun _ _ _ _ _ _ us hl => match us, hl with | [_, _], _ => rfl)⟩⟩
  · obtain ⟨S, a, nm, n, t, rfl, _⟩ := h
    rfl
  · obtain ⟨S, a, nm, n, t, rfl, hU, hA, hN, hsz, k1, k2⟩ := h
    refine ⟨_, rfl, _, rfl, S, a, nm, n, t, rfl, hA, hN, k1, fun i hi H1 s1 => ?_⟩
    refine ⟨_, rfl, S, a, n, rfl, hU.same s1, hA.same s1, fun b lp lc ld H2 s2 nb np nc nd b1 b2 b3 c1 c2 c3 hI => ?_⟩
    obtain ⟨⟨⟨dx, e⟩, ea⟩, ⟨ps, ep, rp⟩, ⟨cs, ec, rc⟩, ⟨ds, ed, rd⟩⟩ := id hI
    have hil := goAt_lt hi
    have hid : i < ds.length := by rw [rd.len]; exact hil
    have U1 := hU.same s1
    have keep : Keeps ([lp, lc, ld] ++ S) H2 (upd H2 ld (.lst (ds.eraseIdx i))) := fun c o hc ec => by
      rw [upd_ne (fun z => hc (by rw [z]; simp))]
      exact ec
    have less : ∀ c, c ∉ [lp, lc, ld] ++ S → c ∉ S := fun c hc hm => hc (List.mem_append_right _ hm)
    have same3 : Same H (upd H2 ld (.lst (ds.eraseIdx i))) := fun c o eo => by
      rw [upd_ne (ne_of_none (s1 _ _ eo) nd)]
      exact s2 _ _ (s1 _ _ eo)
    refine ⟨_, rfl, b, _, dx, _, _, rfl, e, c_Net T, n_Net_departures T, rfl, .inl ⟨rfl, _, SqL.of ed⟩, _, rfl, ld, ds, (i : Int), i, ds[i], rfl, rfl, ed, by omega, by omega, ?_, List.getElem?_eq_getElem hid, _, rfl, ?_⟩
    · exact seqIx_nat hid
    · refine k2 i hi b _ same3 ⟨lp, lc, ld, ⟨⟨⟨dx, by rw [upd_ne b3.symm]; exact e⟩, less _ ea⟩, ⟨ps, by rw [upd_ne c2.symm]; exact ep, rp.mono fun _ _ y => (y.keep keep).less less⟩, ⟨cs, by rw [upd_ne c3.symm]; exact ec, rc.mono fun _ _ y => (y.keep keep).less less⟩, ⟨_, upd_same, (rd.erase i hil).mono fun _ _ y => (y.keep keep).less less⟩⟩, U1.new np, U1.new nc, U1.new nd⟩
/-! ## shifts -/
def Outside (g : Vbtoad.Go) (m : Int) : Prop := (g.dep : Int) + m < 0 ∨ 100000 < (g.arr : Int) + m
def shiftGo (g : Vbtoad.Go) (m : Int) : Vbtoad.Go := { g with dep := ((g.dep : Int) + m).toNat, arr := ((g.arr : Int) + m).toNat }
def sp_shifted_departure (K : PySem.W.Frag) : Sp := fun vs H Q E => ∃ (S : List Addr) (b : Addr) (g : Vbtoad.Go) (m : Int), vs = [.ref b, .int m] ∧ Used S H ∧ GoAt K S H b g ∧ g.dep ≤ g.arr ∧
  (Outside g m → E (cTimes K) none H) ∧ (¬ Outside g m → ∀ c H1, Same H H1 → H c = none → GoAt K S H1 c (shiftGo g m) → Q (.ref c) H1)
theorem sc_shifted_departure : FnScope ["departure", "minutes", "leaves", "comes"] ["departure", "minutes"] d_shifted_departure.scope := ⟨rfl, rfl, rfl, by decide +kernel, rfl, by decide +kernel, by decide +kernel⟩
theorem ok_shifted_departure (T : Fx K mg base) : FnX P w K mg base 3 "shifted_departure" (sp_shifted_departure K) := by
  obtain ⟨fd, F⟩ := F_shifted_departure T
  refine ⟨⟨_, fd, ["departure", "minutes"], F.ok sc_shifted_departure (fun vs H Q E h => ?_) (fun cdv A outer s H vs Q E hr h => ⟨_, pss_cons (ps_set (i := 2) sc_shifted_departure.nd rfl (Or.inl rfl) (pe_op op_add (pe_fld (pv 0) rfl) (pv 1))) (pss_cons (ps_set (i := 3) sc_shifted_departure.nd rfl (Or.inl rfl) (pe_op op_add (pe_fld (pv 0) rfl) (pv 1))) (pss_cons (ps_if (PW.pt (pw_or (pt_cmpR op_lt (pv 2) (pe_int) (nomark _)) (pw_or1 (pt_cmpR op_gt (pv 3) (C8.pe_gc rfl (i_LAST_MINUTE T)) (nomark _))))) (pss_one (ps_raise0 rfl (T.exc rfl (g_OutsideTimes T)) (takes_of rfl rfl rfl rfl) rfl)) (pss_nil)) (pss_one (ps_ret (pe_k0 (ok_Departure_init T) hr (by decide) rfl (pa_cons (pe_fld (pv 0) rfl) (pa_cons (pe_fld (pv 0) rfl) (pa_cons (pv 2) (pa_cons (pe_fld (pv 0) rfl) (pa_cons (pv 3) pa_nil)))))))))), ?_⟩), g_shifted_departure T, F.kp, F.bindsN (fun _ _ _ _ _ _ us hl => match us, hl with | [_, _], _ => rfl)⟩⟩
  · obtain ⟨S, b, g, m, rfl, _⟩ := h
    rfl
  · obtain ⟨S, b, g, m, rfl, hU, ⟨dx, sg, e1, e2, e3, e4⟩, hda, k1, k2⟩ := h
    refine ⟨_, rfl, b, _, dx, _, _, rfl, e1, c_Departure T, n_Departure_leaves T, rfl, _, rfl, _, _, rfl, rfl, ?_⟩
    refine ⟨_, rfl, b, _, dx, _, _, rfl, e1, c_Departure T, n_Departure_comes T, rfl, _, rfl, _, _, rfl, rfl, ?_⟩
    have fin : ¬ Outside g m → ∀ (x dx1 : Addr), H x = none → H dx1 = none → dx1 ≠ x → ∀ H1, H1 x = some (.ins (He.ga K "Departure") dx1 [("name", .ref sg), ("origin", .int g.from_), ("leaves", .int ((g.dep : Int) + m)), ("end", .int g.to_), ("comes", .int ((g.arr : Int) + m))]) → Same H H1 → Q (.ref x) H1 := by
      intro no x dx1 hx hdx ne H1 h1 s1
      refine k2 no x H1 s1 hx ⟨dx1, sg, ?_, hU.new hx, s1 _ _ e3, e4⟩
      unfold Outside at no
      have z1 : ((((g.dep : Int) + m).toNat : Nat) : Int) = (g.dep : Int) + m := Int.toNat_of_nonneg (by omega)
      have z2 : ((((g.arr : Int) + m).toNat : Nat) : Int) = (g.arr : Int) + m := Int.toNat_of_nonneg (by omega)
      unfold shiftGo
      rw [z1, z2]
      exact h1
    refine ⟨_, rfl, _, _, rfl, rfl, _, rfl, ?_⟩
    by_cases c1 : (g.dep : Int) + m < 0
    · exact ifT (decide_eq_true c1) (iteT (k1 (.inl c1)))
    · refine ifF (decide_eq_false c1) ⟨_, rfl, _, _, rfl, rfl, _, rfl, ?_⟩
      by_cases c2 : (100000 : Int) < (g.arr : Int) + m
      · exact ifT (decide_eq_true c2) (k1 (.inr c2))
      · refine ifF (decide_eq_false c2) ⟨_, rfl, b, _, dx, _, _, rfl, e1, c_Departure T, n_Departure_name T, rfl, _, rfl, b, _, dx, _, _, rfl, e1, c_Departure T, n_Departure_origin T, rfl, _, rfl, _, rfl, b, _, dx, _, _, rfl, e1, c_Departure T, n_Departure_end T, rfl, _, rfl, fun x dx1 nx nd ne => ⟨x, dx1, _, _, _, _, _, rfl, upd_same, fun H4 h4 k4 => ⟨rfl, ?_⟩⟩⟩
        refine fin (by unfold Outside; omega) x dx1 nx nd ne H4 h4 fun c o ec => ?_
        have cx : c ≠ x := ne_of_none ec nx
        rw [k4 c cx, upd_ne cx, upd_ne (ne_of_none ec nd)]
        exact ec
def sp_net_with_shift (K : PySem.W.Frag) : Sp := fun vs H Q E => ∃ (S : List Addr) (a : Addr) (n : Vbtoad.Net) (i : Nat) (g : Vbtoad.Go) (m : Int), vs = [.ref a, .int (i : Nat), .int m] ∧ Used S H ∧ NetAt K S H a n ∧ n.goes[i]? = some g ∧ g.dep ≤ g.arr ∧
  (Outside g m → ∀ H1, Same H H1 → E (cTimes K) none H1) ∧ (¬ Outside g m → ∀ b H1, Same H H1 → NetAt K S H1 b { n with goes := n.goes.set i (shiftGo g m) } → Q (.ref b) H1)
theorem sc_net_with_shift : FnScope ["net", "number", "minutes", "other"] ["net", "number", "minutes"] d_net_with_shift.scope := ⟨rfl, rfl, rfl, by decide +kernel, rfl, by decide +kernel, by decide +kernel⟩
theorem ok_net_with_shift (T : Fx K mg base) : FnX P w K mg base 4 "net_with_shift" (sp_net_with_shift K) := by
  obtain ⟨fd, F⟩ := F_net_with_shift T
  refine ⟨⟨_, fd, ["net", "number", "minutes"], F.ok sc_net_with_shift (fun vs H Q E h => ?_) (fun cdv A outer s H vs Q E hr h => ⟨_, pss_cons (ps_set (i := 3) sc_net_with_shift.nd rfl (Or.inl rfl) (pe_c0 (ok_copy_of_net T) hr (by decide) rfl (pa_cons (pv 0) pa_nil))) (pss_cons (ps_asg (pe_cx (ok_shifted_departure T) hr (by decide) rfl (takes_of rfl rfl rfl rfl) (pa_cons (pe_ix ix_list (pe_fld (pv 0) rfl) (pv 1) (fun _ _ => rfl)) (pa_cons (pv 2) pa_nil))) (pg_sub (pe_fld (pv 3) rfl) (pv 1) set_list)) (pss_one (ps_ret (pv 3)))), ?_⟩), g_net_with_shift T, F.kp, F.bindsN (fun _ _ _ _ _ _ us hl => match us, hl with | [_, _, _], _ => rfl)⟩⟩
  · obtain ⟨S, a, n, i, g, m, rfl, _⟩ := h
    rfl
  · obtain ⟨S, a, n, i, g, m, rfl, hU, hA, hg, hda, k1, k2⟩ := h
    refine ⟨_, rfl, S, a, n, rfl, hU, hA, fun b lp lc ld H2 s2 nb np nc nd b1 b2 b3 c1 c2 c3 hI => ?_⟩
    obtain ⟨_, ⟨_, ep1, _⟩, ⟨_, ec1, _⟩, ⟨_, ed1, _⟩⟩ := id hI
    obtain ⟨p0, c0, d0, ⟨⟨⟨dx0, e0⟩, _⟩, _, _, ⟨ds0, ed0, rd0⟩⟩, _⟩ := hA
    replace e0 := s2 _ _ e0
    replace ed0 := s2 _ _ ed0
    have fr : ∀ c ∈ [lp, lc, ld], H c = none := by
      intro c hc
      simp only [List.mem_cons, List.not_mem_nil, or_false] at hc
      rcases hc with rfl | rfl | rfl <;> assumption
    obtain ⟨x, ex, rx⟩ := (rd0.mono fun _ _ y => (y.more fr).keep (Same.keeps s2)).at_ i g hg
    have U2 : Used ([lp, lc, ld] ++ S) H2 := fun c hm => by
      rcases List.mem_append.mp hm with hm | hm
      · simp only [List.mem_cons, List.not_mem_nil, or_false] at hm
        rcases hm with rfl | rfl | rfl
        · rw [ep1]
          exact fun z => by cases z
        · rw [ec1]
          exact fun z => by cases z
        · rw [ed1]
          exact fun z => by cases z
      · exact (hU.same s2) c hm
    refine ⟨_, rfl, a, _, dx0, _, _, rfl, e0, c_Net T, n_Net_departures T, rfl, _, rfl, d0, ds0, (i : Int), .ref x, rfl, rfl, SqL.of ed0, atI_nat ex, _, rfl, [lp, lc, ld] ++ S, x, g, m, rfl, U2, rx, hda, fun z => k1 z H2 s2, fun z c H3 s3 nc3 hc3 => ?_⟩
    obtain ⟨⟨⟨dx, e⟩, ea⟩, ⟨ps, ep, rp⟩, ⟨cs, ec, rc⟩, ⟨ds, ed, rd⟩⟩ := hI.keep (Same.keeps s3) ((s3 _ _ ep1).trans ep1.symm) ((s3 _ _ ec1).trans ec1.symm) ((s3 _ _ ed1).trans ed1.symm)
    refine ⟨_, rfl, b, _, dx, _, _, rfl, e, c_Net T, n_Net_departures T, rfl, _, rfl, ld, ds, (i : Int), i, rfl, rfl, ed, ixN_nat (by rw [rd.len]; exact (List.getElem?_eq_some_iff.mp hg).1), ?_⟩
    have keep : Keeps ([lp, lc, ld] ++ S) H3 (upd H3 ld (.lst (ds.set i (.ref c)))) := fun c o hc ec => by
      rw [upd_ne (fun z => hc (by rw [z]; simp))]
      exact ec
    have less : ∀ c, c ∉ [lp, lc, ld] ++ S → c ∉ S := fun c hc hm => hc (List.mem_append_right _ hm)
    have same3 : Same H (upd H3 ld (.lst (ds.set i (.ref c)))) := fun c o eo => by
      rw [upd_ne (ne_of_none eo nd)]
      exact s3 _ _ (s2 _ _ eo)
    have hc4 : GoAt K S (upd H3 ld (.lst (ds.set i (.ref c)))) c (shiftGo g m) := (hc3.keep keep).less less
    refine ⟨_, rfl, k2 z b _ same3 ⟨lp, lc, ld, ⟨⟨⟨dx, by rw [upd_ne b3.symm]; exact e⟩, less _ ea⟩, ⟨ps, by rw [upd_ne c2.symm]; exact ep, rp.mono fun _ _ y => (y.keep keep).less less⟩, ⟨cs, by rw [upd_ne c3.symm]; exact ec, rc.mono fun _ _ y => (y.keep keep).less less⟩, ⟨_, upd_same, (rd.mono fun _ _ y => (y.keep keep).less less).set hc4 i⟩⟩, hU.new np, hU.new nc, hU.new nd⟩⟩
end
end SJ
end
section
set_option Elab.async false
set_option linter.all false
set_option maxRecDepth 100000
set_option maxHeartbeats 4000000
/-! The defs of reading.py: words taken. -/
namespace SJ
open PySem PySem.Spec PyProof.Rows L2
section
variable {P : Program} {w : World} {K : PySem.W.Frag} {mg : Str → Option Value} {base : Heap}
/-- a reading of the line at la: it faults, or it gives a value and leaves the rest -/
def Reads {α : Type} (K : PySem.W.Frag) (N : Addr → Prop) (f : α → V) (H : Hp) (la : Addr) (Q : VK) (E : XK) : Except Vbbtaa.Fault (α × Vbbtaa.Rest) → Prop
  | .error e => OutF K [la] H E e
  | .ok (x, r) => ∀ H1, RestAt K N H1 la r → Keeps [la] H H1 → Q (f x) H1
theorem OutF.back {S S' : List Addr} {H H1 : Hp} {E : XK} {e : Vbbtaa.Fault} (h : OutF K S' H E e) (k : Keeps S H H1) (i : ∀ c ∈ S, c ∈ S') : OutF K S H1 E e := fun H2 d k2 hd => h H2 d ((k.trans k2).mono i) hd
theorem Reads.back {α : Type} {N : Addr → Prop} {f : α → V} {H H1 : Hp} {la : Addr} {Q : VK} {E : XK} {x : Except Vbbtaa.Fault (α × Vbbtaa.Rest)} (h : Reads K N f H la Q E x) (k : Keeps [la] H H1) : Reads K N f H1 la Q E x := by
  cases x with
  | error e => exact OutF.back h k fun _ z => z
  | ok z => exact fun H2 r k2 => h H2 r (k.trans k2)
/-! ## the rule of a taken word, told by the specification's readings -/
theorem nameIn_nil {r : Vbbtaa.Rest} (h : r.words = []) : Vbtoad.nameIn r = .error ⟨1, r.halt_⟩ := by
  unfold Vbtoad.nameIn Vbbtaa.next
  rw [h]
theorem nameIn_cons {r : Vbbtaa.Rest} {x : Vbbtaa.Word} {l : List Vbbtaa.Word} (h : r.words = x :: l) : Vbtoad.nameIn r = if Vbbtaa.isName x.text = true then .ok (x.text, { r with words := l }) else .error ⟨1, x.at_⟩ := by
  unfold Vbtoad.nameIn Vbbtaa.next
  rw [h]
  dsimp only
  cases Vbbtaa.isName x.text <;> rfl
theorem placeOf_cons {r : Vbbtaa.Rest} {x : Vbbtaa.Word} {l : List Vbbtaa.Word} (h : r.words = x :: l) : Vbbtaa.placeOf r = x.at_ := by
  unfold Vbbtaa.placeOf
  rw [h]
theorem numberIn_nil {lo hi : Nat} {r : Vbbtaa.Rest} (h : r.words = []) : Vbtoad.numberIn lo hi r = .error ⟨1, r.halt_⟩ := by
  unfold Vbtoad.numberIn Vbbtaa.next
  rw [h]
theorem natOf_value {t : List Nat} (h : (Vbbtaa.natOf 6 t).isSome = true) : Vbbtaa.natOf 6 t = some (Vbbtaa.valueOf t) ∧ t.all Vbbtaa.isDigit = true := by
  rw [natOf_iff] at h ⊢
  split at h
  · cases h
  · rename_i c1
    rw [if_neg c1]
    split at h
    · cases h
    · rename_i c2
      rw [if_neg c2]
      split at h
      · rename_i c3
        rw [if_pos c3]
        exact ⟨rfl, c3⟩
      · cases h
theorem numberIn_cons {lo hi : Nat} {r : Vbbtaa.Rest} {x : Vbbtaa.Word} {l : List Vbbtaa.Word} (h : r.words = x :: l) : Vbtoad.numberIn lo hi r = if (Vbbtaa.natOf 6 x.text).isSome = true then (if lo ≤ Vbbtaa.valueOf x.text ∧ Vbbtaa.valueOf x.text ≤ hi then .ok (Vbbtaa.valueOf x.text, { r with words := l }) else .error ⟨3, x.at_⟩) else .error ⟨1, x.at_⟩ := by
  unfold Vbtoad.numberIn Vbbtaa.next
  rw [h]
  dsimp only
  cases c : (Vbbtaa.natOf 6 x.text).isSome with
  | true =>
    rw [(natOf_value c).1, placeOf_cons h]
    rfl
  | false =>
    have : Vbbtaa.natOf 6 x.text = none := by simpa using c
    rw [this]
    rfl
def sp_need_room (K : PySem.W.Frag) : Sp := fun vs H Q E => ∃ (N : Addr → Prop) (b l : Addr) (x : Vbbtaa.Word) (xs : List V) (most : Nat), vs = [.ref b, .ref l, .int most] ∧ WordAt K N H b x ∧ SqL K H l xs ∧ (most ≤ xs.length → OutF K [] H E ⟨7, x.at_⟩) ∧ (xs.length < most → Q .non H)
theorem sc_need_room : FnScope ["word", "things", "most"] ["word", "things", "most"] d_need_room.scope := ⟨rfl, rfl, rfl, by decide +kernel, rfl, by decide +kernel, by decide +kernel⟩
theorem ok_need_room (T : Fx K mg base) : FnX P w K mg base 3 "need_room" (sp_need_room K) := by
  obtain ⟨fd, F⟩ := F_need_room T
  refine ⟨⟨_, fd, ["word", "things", "most"], F.ok sc_need_room (fun vs H Q E h => ?_) (fun cdv A outer s H vs Q E hr h => ⟨_, pss_one (ps_if (pt_cmpR op_ge (pe_callB call_len_seq (by rfl) (b_len T) (by decide +kernel) (pa_cons (pv 1) pa_nil)) (pv 2) (nomark _)) (pss_one (ps_raiseTextFault rfl (T.TextFault) hr (takes_of rfl rfl rfl rfl) (pa_cons (C8.pe_gc rfl (i_NO_ROOM T)) (pa_cons (pe_fld (pv 0) rfl) pa_nil)))) (pss_nil)), ?_⟩), g_need_room T, F.kp, F.bindsN (fun _ _ _ _ _ _ us hl => match us, hl with | [_, _, _], _ => rfl)⟩⟩
  · obtain ⟨N, b, l, x, xs, most, rfl, _⟩ := h
    rfl
  · obtain ⟨N, b, l, x, xs, most, rfl, ⟨dx, sg, e1, e2, e3⟩, hS, k1, k2⟩ := h
    refine ⟨_, rfl, l, xs, rfl, .inl hS, _, rfl, _, _, rfl, rfl, _, rfl, ?_⟩
    by_cases c : (most : Int) ≤ (xs.length : Int)
    · refine ifT (decide_eq_true c) ⟨_, rfl, b, _, dx, _, _, rfl, e1, c_Word T, n_Word_place T, rfl, _, _, rfl, fun d hd => ?_⟩
      exact k1 (by omega) _ d (Same.keeps (same_new hd)) upd_same
    · exact ifF (decide_eq_false c) (k2 (by omega))
def sp_number_between (K : PySem.W.Frag) : Sp := fun vs H Q E => ∃ (N : Addr → Prop) (b : Addr) (x : Vbbtaa.Word) (lo hi : Nat), vs = [.ref b, .int lo, .int hi] ∧ WordAt K N H b x ∧ x.text.all Vbbtaa.isDigit = true ∧
  (¬ (lo ≤ Vbbtaa.valueOf x.text ∧ Vbbtaa.valueOf x.text ≤ hi) → OutF K [] H E ⟨3, x.at_⟩) ∧ (lo ≤ Vbbtaa.valueOf x.text ∧ Vbbtaa.valueOf x.text ≤ hi → Q (.int (Vbbtaa.valueOf x.text : Nat)) H)
theorem sc_number_between : FnScope ["word", "least", "most", "number"] ["word", "least", "most"] d_number_between.scope := ⟨rfl, rfl, rfl, by decide +kernel, rfl, by decide +kernel, by decide +kernel⟩
theorem ok_number_between (T : Fx K mg base) : FnX P w K mg base 3 "number_between" (sp_number_between K) := by
  obtain ⟨fd, F⟩ := F_number_between T
  refine ⟨⟨_, fd, ["word", "least", "most"], F.ok sc_number_between (fun vs H Q E h => ?_) (fun cdv A outer s H vs Q E hr h => ⟨_, pss_cons (ps_set (i := 3) sc_number_between.nd rfl (Or.inl rfl) (pe_c0 (ok_number_told T) hr (by decide) rfl (pa_cons (pe_fld (pv 0) rfl) pa_nil))) (pss_cons (ps_if (PW.pt (pw_or (pt_cmpR op_lt (pv 3) (pv 1) (nomark _)) (pw_or1 (pt_cmpR op_gt (pv 3) (pv 2) (nomark _))))) (pss_one (ps_raiseTextFault rfl (T.TextFault) hr (takes_of rfl rfl rfl rfl) (pa_cons (C8.pe_gc rfl (i_OUT_OF_RANGE T)) (pa_cons (pe_fld (pv 0) rfl) pa_nil)))) (pss_nil)) (pss_one (ps_ret (pv 3)))), ?_⟩), g_number_between T, F.kp, F.bindsN (fun _ _ _ _ _ _ us hl => match us, hl with | [_, _, _], _ => rfl)⟩⟩
  · obtain ⟨N, b, x, lo, hi, rfl, _⟩ := h
    rfl
  · obtain ⟨N, b, x, lo, hi, rfl, ⟨dx, sg, e1, e2, e3⟩, hd, k1, k2⟩ := h
    refine ⟨_, rfl, b, _, dx, _, _, rfl, e1, c_Word T, n_Word_signs T, rfl, sg, x.text, rfl, SqL.of e2, hd, ?_⟩
    have bad : ¬ (lo ≤ Vbbtaa.valueOf x.text ∧ Vbbtaa.valueOf x.text ≤ hi) → ∀ D : Addr, H D = none → E (.ref (He.ga K "TextFault")) (some D) (upd H D (.xd (faultF (.int 3) (.int x.at_)))) := fun z D hD => k1 z _ D (Same.keeps (same_new hD)) upd_same
    refine ⟨_, rfl, _, rfl, _, _, rfl, rfl, _, rfl, ?_⟩
    by_cases c1 : (Vbbtaa.valueOf x.text : Int) < (lo : Int)
    · refine ifT (decide_eq_true c1) (iteT ⟨_, rfl, b, _, dx, _, _, rfl, e1, c_Word T, n_Word_place T, rfl, _, _, rfl, bad (by omega)⟩)
    · refine ifF (decide_eq_false c1) ⟨_, rfl, _, rfl, _, _, rfl, rfl, _, rfl, ?_⟩
      by_cases c2 : (hi : Int) < (Vbbtaa.valueOf x.text : Int)
      · exact ifT (decide_eq_true c2) ⟨_, rfl, b, _, dx, _, _, rfl, e1, c_Word T, n_Word_place T, rfl, _, _, rfl, bad (by omega)⟩
      · exact ifF (decide_eq_false c2) ⟨_, rfl, k2 (by omega)⟩
def sp_take_number_between (K : PySem.W.Frag) : Sp := fun vs H Q E => ∃ (N : Addr → Prop) (a : Addr) (r : Vbbtaa.Rest) (lo hi : Nat), vs = [.ref a, .int lo, .int hi] ∧ RestAt K N H a r ∧ Reads K N (fun (n : Nat) => V.int n) H a Q E (Vbtoad.numberIn lo hi r)
theorem sc_take_number_between : FnScope ["line", "least", "most"] ["line", "least", "most"] d_take_number_between.scope := ⟨rfl, rfl, rfl, by decide +kernel, rfl, by decide +kernel, by decide +kernel⟩
theorem ok_take_number_between (T : Fx K mg base) : FnX P w K mg base 5 "take_number_between" (sp_take_number_between K) := by
  obtain ⟨fd, F⟩ := F_take_number_between T
  refine ⟨⟨_, fd, ["line", "least", "most"], F.ok sc_take_number_between (fun vs H Q E h => ?_) (fun cdv A outer s H vs Q E hr h => ⟨_, pss_one (ps_ret (pe_cx (ok_number_between T) hr (by decide) rfl (takes_of rfl rfl rfl rfl) (pa_cons (pe_cx (ok_take_number T) hr (by decide) rfl (takes_of rfl rfl rfl rfl) (pa_cons (pv 0) pa_nil)) (pa_cons (pv 1) (pa_cons (pv 2) pa_nil))))), ?_⟩), g_take_number_between T, F.kp, F.bindsN (fun _ _ _ _ _ _ us hl => match us, hl with | [_, _, _], _ => rfl)⟩⟩
  · obtain ⟨N, a, r, lo, hi, rfl, _⟩ := h
    rfl
  · obtain ⟨N, a, r, lo, hi, rfl, hR, k⟩ := h
    refine ⟨_, rfl, N, a, r, rfl, hR, fun z => ?_, fun x l ex hb => ?_, fun x l ex hb b H1 hw hr1 k1 => ?_⟩
    · rw [numberIn_nil z] at k
      exact k
    · rw [numberIn_cons ex, if_neg (fun z => Bool.false_ne_true (hb.symm.trans z))] at k
      exact k
    · rw [numberIn_cons ex, if_pos hb] at k
      refine ⟨_, rfl, _, rfl, N, b, x, lo, hi, rfl, hw, (natOf_value hb).2, fun z => ?_, fun z => ?_⟩
      · rw [if_neg z] at k
        exact fun H2 d k2 hd => k H2 d (k1.trans (k2.mono (by simp))) hd
      · rw [if_pos z] at k
        exact k H1 hr1 k1
/-- a minute that must be later -/
def laterIn (d : Nat) (r : Vbbtaa.Rest) : Except Vbbtaa.Fault (Nat × Vbbtaa.Rest) := match Vbtoad.numberIn 0 Vbtoad.LATE r with
  | .error e => .error e
  | .ok (m, u) => if m ≤ d then .error ⟨8, Vbbtaa.placeOf r⟩ else .ok (m, u)
def sp_take_later_minute (K : PySem.W.Frag) : Sp := fun vs H Q E => ∃ (N : Addr → Prop) (a : Addr) (r : Vbbtaa.Rest) (d : Nat), vs = [.ref a, .int d] ∧ RestAt K N H a r ∧ Reads K N (fun (n : Nat) => V.int n) H a Q E (laterIn d r)
theorem sc_take_later_minute : FnScope ["line", "leaves", "word", "comes"] ["line", "leaves"] d_take_later_minute.scope := ⟨rfl, rfl, rfl, by decide +kernel, rfl, by decide +kernel, by decide +kernel⟩
theorem ok_take_later_minute (T : Fx K mg base) : FnX P w K mg base 5 "take_later_minute" (sp_take_later_minute K) := by
  obtain ⟨fd, F⟩ := F_take_later_minute T
  refine ⟨⟨_, fd, ["line", "leaves"], F.ok sc_take_later_minute (fun vs H Q E h => ?_) (fun cdv A outer s H vs Q E hr h => ⟨_, pss_cons (ps_set (i := 2) sc_take_later_minute.nd rfl (Or.inl rfl) (pe_cx (ok_take_number T) hr (by decide) rfl (takes_of rfl rfl rfl rfl) (pa_cons (pv 0) pa_nil))) (pss_cons (ps_set (i := 3) sc_take_later_minute.nd rfl (Or.inl rfl) (pe_cx (ok_number_between T) hr (by decide) rfl (takes_of rfl rfl rfl rfl) (pa_cons (pv 2) (pa_cons (pe_int) (pa_cons (C8.pe_gc rfl (i_LAST_MINUTE T)) pa_nil))))) (pss_cons (ps_if (pt_cmpR op_le (pv 3) (pv 1) (nomark _)) (pss_one (ps_raiseTextFault rfl (T.TextFault) hr (takes_of rfl rfl rfl rfl) (pa_cons (C8.pe_gc rfl (i_NOT_LATER T)) (pa_cons (pe_fld (pv 2) rfl) pa_nil)))) (pss_nil)) (pss_one (ps_ret (pv 3))))), ?_⟩), g_take_later_minute T, F.kp, F.bindsN (fun _ _ _ _ _ _ us hl => match us, hl with | [_, _], _ => rfl)⟩⟩
  · obtain ⟨N, a, r, d, rfl, _⟩ := h
    rfl
  · obtain ⟨N, a, r, d, rfl, hR, k⟩ := h
    unfold laterIn at k
    refine ⟨_, rfl, N, a, r, rfl, hR, fun z => ?_, fun x l ex hb => ?_, fun x l ex hb b H1 hw hr1 k1 => ?_⟩
    · rw [numberIn_nil z] at k
      exact k
    · rw [numberIn_cons ex, if_neg (fun z => Bool.false_ne_true (hb.symm.trans z))] at k
      exact k
    · rw [numberIn_cons ex, if_pos hb] at k
      refine ⟨_, rfl, N, b, x, 0, Vbtoad.LATE, rfl, hw, (natOf_value hb).2, fun z => ?_, fun z => ?_⟩
      · rw [if_neg z] at k
        exact fun H2 d k2 hd => k H2 d (k1.trans (k2.mono (by simp))) hd
      · rw [if_pos z, placeOf_cons ex] at k
        refine ⟨_, rfl, _, rfl, _, _, rfl, rfl, _, rfl, ?_⟩
        obtain ⟨dx, sg, e1, e2, e3⟩ := hw
        by_cases c : (Vbbtaa.valueOf x.text : Int) ≤ (d : Int)
        · refine ifT (decide_eq_true c) ⟨_, rfl, b, _, dx, _, _, rfl, e1, c_Word T, n_Word_place T, rfl, _, _, rfl, fun D hD => ?_⟩
          have k : Reads K N (fun (n : Nat) => V.int n) H a Q E (if Vbbtaa.valueOf x.text ≤ d then .error ⟨8, x.at_⟩ else _) := k
          rw [if_pos (by omega)] at k
          exact k _ D (k1.trans (Same.keeps (same_new hD))) upd_same
        · refine ifF (decide_eq_false c) ⟨_, rfl, ?_⟩
          have k : Reads K N (fun (n : Nat) => V.int n) H a Q E (if Vbbtaa.valueOf x.text ≤ d then .error ⟨8, x.at_⟩ else .ok (Vbbtaa.valueOf x.text, { r with words := l })) := k
          rw [if_neg (by omega)] at k
          exact k H1 hr1 k1
end
end SJ
end
section
set_option Elab.async false
set_option linter.all false
set_option maxRecDepth 100000
set_option maxHeartbeats 4000000
/-! The defs of reading.py: names and places taken. -/
namespace SJ
open PySem PySem.Spec PyProof.Rows L2
section
variable {P : Program} {w : World} {K : PySem.W.Frag} {mg : Str → Option Value} {base : Heap}
theorem RestAt.ne_lst {N : Addr → Prop} {H : Hp} {la c : Addr} {r : Vbbtaa.Rest} {xs : List V} (h : RestAt K N H la r) (e : H c = some (.lst xs)) : c ≠ la := by
  rintro rfl
  obtain ⟨_, _, ⟨_, _, _, e1, _⟩, _⟩ := h
  rw [e1] at e
  cases e
theorem Keeps.at_ne {H H1 : Hp} {la c : Addr} {o : HO} (k : Keeps [la] H H1) (ne : c ≠ la) (e : H c = some o) : H1 c = some o := k c o (by simpa using ne) e
theorem NetIs.line {S : List Addr} {N : Addr → Prop} {H H1 : Hp} {na lp lc ld la : Addr} {n : Vbtoad.Net} {r : Vbbtaa.Rest} (h : NetIs K S H na lp lc ld n) (hr : RestAt K N H la r) (hm : la ∈ S) (k : Keeps [la] H H1) : NetIs K S H1 na lp lc ld n := by
  obtain ⟨_, ep, _⟩ := h.ps
  obtain ⟨_, ec, _⟩ := h.cs
  obtain ⟨_, ed, _⟩ := h.ds
  exact h.keep (k.mono (by simpa using hm)) ((k.at_ne (hr.ne_lst ep) ep).trans ep.symm) ((k.at_ne (hr.ne_lst ec) ec).trans ec.symm) ((k.at_ne (hr.ne_lst ed) ed).trans ed.symm)
theorem NamedAt.line {N : Addr → Prop} {H H1 : Hp} {la b : Addr} {t : List Nat} {r : Vbbtaa.Rest} (h : NamedAt K H b t) (hr : RestAt K N H la r) (k : Keeps [la] H H1) : NamedAt K H1 b t := by
  obtain ⟨C, dx, fs, sg, e1, e2, e3, e4, e5⟩ := h
  refine ⟨C, dx, fs, sg, k.at_ne ?_ e1, e2, e3, e4, k.at_ne (hr.ne_lst e5) e5⟩
  rintro rfl
  obtain ⟨_, _, ⟨_, _, _, f1, _⟩, _⟩ := hr
  rw [e1] at f1
  have := (HO.ins.inj (Option.some.inj f1)).2.2
  rw [this] at e4
  have : (none : Option V) = some (V.ref sg) := e4
  cases this
/-- a name that none of these has -/
def newIn (ts : List (List Nat)) (r : Vbbtaa.Rest) : Except Vbbtaa.Fault (List Nat × Vbbtaa.Rest) := match Vbtoad.nameIn r with
  | .error e => .error e
  | .ok (t, q) => if ts.any (fun x => x == t) = true then .error ⟨4, Vbbtaa.placeOf r⟩ else .ok (t, q)
/-- .. its list too -/
def ReadsN (K : PySem.W.Frag) (N : Addr → Prop) (H : Hp) (la : Addr) (Q : VK) (E : XK) : Except Vbbtaa.Fault (List Nat × Vbbtaa.Rest) → Prop
  | .error e => OutF K [la] H E e
  | .ok (t, r) => ∀ sg H1, H1 sg = some (.lst (nv t)) → N sg → RestAt K N H1 la r → Keeps [la] H H1 → Q (.ref sg) H1
theorem any_find {ts : List (List Nat)} {t : List Nat} : ts.any (fun x => x == t) = (ts.findIdx? fun x => x == t).isSome := by
  cases h : ts.findIdx? fun x => x == t with
  | none =>
    rw [List.findIdx?_eq_none_iff] at h
    rw [List.any_eq_false.mpr (fun x hx => by rw [h x hx]; exact Bool.false_ne_true)]
    rfl
  | some i =>
    obtain ⟨hi, e, _⟩ := List.findIdx?_eq_some_iff_getElem.mp h
    exact List.any_eq_true.mpr ⟨_, List.getElem_mem hi, e⟩
def sp_take_new_name (K : PySem.W.Frag) : Sp := fun vs H Q E => ∃ (N : Addr → Prop) (la l : Addr) (r : Vbbtaa.Rest) (xs : List V) (ts : List (List Nat)), vs = [.ref la, .ref l] ∧ RestAt K N H la r ∧ H l = some (.lst xs) ∧ Each (NamedAt K H) xs ts ∧ ReadsN K N H la Q E (newIn ts r)
theorem sc_take_new_name : FnScope ["line", "things", "word"] ["line", "things"] d_take_new_name.scope := ⟨rfl, rfl, rfl, by decide +kernel, rfl, by decide +kernel, by decide +kernel⟩
theorem ok_take_new_name (T : Fx K mg base) : FnX P w K mg base 5 "take_new_name" (sp_take_new_name K) := by
  obtain ⟨fd, F⟩ := F_take_new_name T
  refine ⟨⟨_, fd, ["line", "things"], F.ok sc_take_new_name (fun vs H Q E h => ?_) (fun cdv A outer s H vs Q E hr h => ⟨_, pss_cons (ps_set (i := 2) sc_take_new_name.nd rfl (Or.inl rfl) (pe_cx (ok_take_name T) hr (by decide) rfl (takes_of rfl rfl rfl rfl) (pa_cons (pv 0) pa_nil))) (pss_cons (ps_if (pt_cmpR op_ge (pe_c0 (ok_number_of_name T) hr (by decide) rfl (pa_cons (pv 1) (pa_cons (pe_fld (pv 2) rfl) pa_nil))) (pe_int) (nomark _)) (pss_one (ps_raiseTextFault rfl (T.TextFault) hr (takes_of rfl rfl rfl rfl) (pa_cons (C8.pe_gc rfl (i_NAME_TAKEN T)) (pa_cons (pe_fld (pv 2) rfl) pa_nil)))) (pss_nil)) (pss_one (ps_ret (pe_fld (pv 2) rfl)))), ?_⟩), g_take_new_name T, F.kp, F.bindsN (fun _ _ _ _ _ _ us hl => match us, hl with | [_, _], _ => rfl)⟩⟩
  · obtain ⟨N, la, l, r, xs, ts, rfl, _⟩ := h
    rfl
  · obtain ⟨N, la, l, r, xs, ts, rfl, hR, hl, hE, k⟩ := h
    unfold newIn at k
    refine ⟨_, rfl, N, la, r, rfl, hR, fun z => ?_, fun x m ex hb => ?_, fun x m ex hb b H1 hw hr1 k1 => ?_⟩
    · rw [nameIn_nil z] at k
      exact k
    · rw [nameIn_cons ex, if_neg (fun z => Bool.false_ne_true (hb.symm.trans z))] at k
      exact k
    · rw [nameIn_cons ex, if_pos hb, placeOf_cons ex] at k
      have k : ReadsN K N H la Q E (if ts.any (fun y => y == x.text) = true then .error ⟨4, x.at_⟩ else .ok (x.text, { r with words := m })) := k
      rw [any_find] at k
      obtain ⟨dx, sg, e1, e2, e3⟩ := hw
      refine ⟨_, rfl, _, rfl, b, _, dx, _, _, rfl, e1, c_Word T, n_Word_signs T, rfl, l, sg, xs, ts, x.text, rfl, SqL.of (k1.at_ne (hR.ne_lst hl) hl), hE.mono fun _ _ y => y.line hR k1, SqL.of e2, fun H2 s2 => ?_⟩
      refine ⟨_, _, rfl, rfl, _, rfl, ?_⟩
      cases c : ts.findIdx? fun y => y == x.text with
      | none =>
        rw [c] at k
        refine ifF (decide_eq_false (by show ¬ (0 : Int) ≤ -1; decide)) ⟨_, rfl, b, _, dx, _, _, rfl, s2 _ _ e1, c_Word T, n_Word_signs T, rfl, ?_⟩
        exact k sg H2 (s2 _ _ e2) e3 (hr1.same s2) (k1.trans (Same.keeps s2))
      | some i =>
        rw [c] at k
        refine ifT (decide_eq_true (by show (0 : Int) ≤ (i : Nat); omega)) ⟨_, rfl, b, _, dx, _, _, rfl, s2 _ _ e1, c_Word T, n_Word_place T, rfl, _, _, rfl, fun D hD => ?_⟩
        exact k _ D ((k1.trans (Same.keeps s2)).trans (Same.keeps (same_new hD))) upd_same
theorem placeIx {n : Vbtoad.Net} {t : List Nat} : ((n.places.map fun p => p.name).findIdx? fun x => x == t) = n.places.findIdx? fun p => p.name == t := by
  rw [List.findIdx?_map]
  rfl
def sp_place_of_word (K : PySem.W.Frag) : Sp := fun vs H Q E => ∃ (S : List Addr) (N : Addr → Prop) (na lp lc ld b : Addr) (n : Vbtoad.Net) (x : Vbbtaa.Word), vs = [.ref na, .ref b] ∧ NetIs K S H na lp lc ld n ∧ WordAt K N H b x ∧
  ((n.places.findIdx? fun p => p.name == x.text) = none → OutF K [] H E ⟨5, x.at_⟩) ∧ ∀ i, (n.places.findIdx? fun p => p.name == x.text) = some i → ∀ H1, Same H H1 → Q (.int (i : Nat)) H1
theorem sc_place_of_word : FnScope ["net", "word", "number"] ["net", "word"] d_place_of_word.scope := ⟨rfl, rfl, rfl, by decide +kernel, rfl, by decide +kernel, by decide +kernel⟩
theorem ok_place_of_word (T : Fx K mg base) : FnX P w K mg base 3 "place_of_word" (sp_place_of_word K) := by
  obtain ⟨fd, F⟩ := F_place_of_word T
  refine ⟨⟨_, fd, ["net", "word"], F.ok sc_place_of_word (fun vs H Q E h => ?_) (fun cdv A outer s H vs Q E hr h => ⟨_, pss_cons (ps_set (i := 2) sc_place_of_word.nd rfl (Or.inl rfl) (pe_c0 (ok_number_of_name T) hr (by decide) rfl (pa_cons (pe_fld (pv 0) rfl) (pa_cons (pe_fld (pv 1) rfl) pa_nil)))) (pss_cons (ps_if (pt_cmpR op_lt (pv 2) (pe_int) (nomark _)) (pss_one (ps_raiseTextFault rfl (T.TextFault) hr (takes_of rfl rfl rfl rfl) (pa_cons (C8.pe_gc rfl (i_NO_PLACE T)) (pa_cons (pe_fld (pv 1) rfl) pa_nil)))) (pss_nil)) (pss_one (ps_ret (pv 2)))), ?_⟩), g_place_of_word T, F.kp, F.bindsN (fun _ _ _ _ _ _ us hl => match us, hl with | [_, _], _ => rfl)⟩⟩
  · obtain ⟨S, N, na, lp, lc, ld, b, n, x, rfl, _⟩ := h
    rfl
  · obtain ⟨S, N, na, lp, lc, ld, b, n, x, rfl, ⟨⟨⟨dn, en⟩, ea⟩, ⟨ps, ep, rp⟩, _, _⟩, ⟨dx, sg, e1, e2, e3⟩, k1, k2⟩ := h
    refine ⟨_, rfl, na, _, dn, _, _, rfl, en, c_Net T, n_Net_places T, rfl, _, rfl, b, _, dx, _, _, rfl, e1, c_Word T, n_Word_signs T, rfl, lp, sg, ps, n.places.map (fun p => p.name), x.text, rfl, SqL.of ep, rp.map (f := fun p => p.name) (fun b g z => PlaceAt.named (S := S) T z), SqL.of e2, fun H1 s1 => ?_⟩
    rw [placeIx]
    refine ⟨_, rfl, _, _, rfl, rfl, _, rfl, ?_⟩
    cases c : n.places.findIdx? fun p => p.name == x.text with
    | none =>
      refine ifT (decide_eq_true (by show (-1 : Int) < 0; decide)) ⟨_, rfl, b, _, dx, _, _, rfl, s1 _ _ e1, c_Word T, n_Word_place T, rfl, _, _, rfl, fun D hD => ?_⟩
      exact k1 c _ D ((Same.keeps s1).trans (Same.keeps (same_new hD))) upd_same
    | some i => exact ifF (decide_eq_false (by show ¬ ((i : Nat) : Int) < 0; omega)) ⟨_, rfl, k2 i c H1 s1⟩
theorem placeIn_nil {n : Vbtoad.Net} {r : Vbbtaa.Rest} (h : r.words = []) : Vbtoad.placeIn n r = .error ⟨1, r.halt_⟩ := by
  unfold Vbtoad.placeIn
  rw [nameIn_nil h]
theorem placeIn_cons {n : Vbtoad.Net} {r : Vbbtaa.Rest} {x : Vbbtaa.Word} {l : List Vbbtaa.Word} (h : r.words = x :: l) : Vbtoad.placeIn n r = if Vbbtaa.isName x.text = true then (match n.places.findIdx? fun p => p.name == x.text with
    | some i => .ok (i, { r with words := l })
    | none => .error ⟨5, x.at_⟩) else .error ⟨1, x.at_⟩ := by
  unfold Vbtoad.placeIn
  rw [nameIn_cons h, placeOf_cons h]
  cases Vbbtaa.isName x.text <;> rfl
def sp_take_place (K : PySem.W.Frag) : Sp := fun vs H Q E => ∃ (S : List Addr) (na lp lc ld la : Addr) (n : Vbtoad.Net) (r : Vbbtaa.Rest), vs = [.ref na, .ref la] ∧ la ∈ S ∧ NetIs K S H na lp lc ld n ∧ RestAt K (· ∉ S) H la r ∧ Reads K (· ∉ S) (fun (i : Nat) => V.int i) H la Q E (Vbtoad.placeIn n r)
theorem sc_take_place : FnScope ["net", "line"] ["net", "line"] d_take_place.scope := ⟨rfl, rfl, rfl, by decide +kernel, rfl, by decide +kernel, by decide +kernel⟩
theorem ok_take_place (T : Fx K mg base) : FnX P w K mg base 5 "take_place" (sp_take_place K) := by
  obtain ⟨fd, F⟩ := F_take_place T
  refine ⟨⟨_, fd, ["net", "line"], F.ok sc_take_place (fun vs H Q E h => ?_) (fun cdv A outer s H vs Q E hr h => ⟨_, pss_one (ps_ret (pe_cx (ok_place_of_word T) hr (by decide) rfl (takes_of rfl rfl rfl rfl) (pa_cons (pv 0) (pa_cons (pe_cx (ok_take_name T) hr (by decide) rfl (takes_of rfl rfl rfl rfl) (pa_cons (pv 1) pa_nil)) pa_nil)))), ?_⟩), g_take_place T, F.kp, F.bindsN (fun _ _ _ _ _ _ us hl => match us, hl with | [_, _], _ => rfl)⟩⟩
  · obtain ⟨S, na, lp, lc, ld, la, n, r, rfl, _⟩ := h
    rfl
  · obtain ⟨S, na, lp, lc, ld, la, n, r, rfl, hm, hI, hR, k⟩ := h
    refine ⟨_, rfl, _, rfl, (· ∉ S), la, r, rfl, hR, fun z => ?_, fun x m ex hb => ?_, fun x m ex hb b H1 hw hr1 k1 => ?_⟩
    · rw [placeIn_nil z] at k
      exact k
    · rw [placeIn_cons ex, if_neg (fun z => Bool.false_ne_true (hb.symm.trans z))] at k
      exact k
    · rw [placeIn_cons ex, if_pos hb] at k
      refine ⟨S, (· ∉ S), na, lp, lc, ld, b, n, x, rfl, hI.line hR hm k1, hw, fun z => ?_, fun i z H2 s2 => ?_⟩
      · rw [z] at k
        exact fun H2 d k2 hd => k H2 d (k1.trans (k2.mono (by simp))) hd
      · rw [z] at k
        exact k H2 (hr1.same s2) (k1.trans (Same.keeps s2))
/-- another place -/
def otherIn (n : Vbtoad.Net) (a : Nat) (r : Vbbtaa.Rest) : Except Vbbtaa.Fault (Nat × Vbbtaa.Rest) := match Vbtoad.placeIn n r with
  | .error e => .error e
  | .ok (b, v) => if a = b then .error ⟨6, Vbbtaa.placeOf r⟩ else .ok (b, v)
def sp_take_other_place (K : PySem.W.Frag) : Sp := fun vs H Q E => ∃ (S : List Addr) (na lp lc ld la : Addr) (n : Vbtoad.Net) (r : Vbbtaa.Rest) (a : Nat), vs = [.ref na, .ref la, .int (a : Nat)] ∧ la ∈ S ∧ NetIs K S H na lp lc ld n ∧ RestAt K (· ∉ S) H la r ∧ Reads K (· ∉ S) (fun (i : Nat) => V.int i) H la Q E (otherIn n a r)
theorem sc_take_other_place : FnScope ["net", "line", "origin", "word", "number"] ["net", "line", "origin"] d_take_other_place.scope := ⟨rfl, rfl, rfl, by decide +kernel, rfl, by decide +kernel, by decide +kernel⟩
theorem ok_take_other_place (T : Fx K mg base) : FnX P w K mg base 5 "take_other_place" (sp_take_other_place K) := by
  obtain ⟨fd, F⟩ := F_take_other_place T
  refine ⟨⟨_, fd, ["net", "line", "origin"], F.ok sc_take_other_place (fun vs H Q E h => ?_) (fun cdv A outer s H vs Q E hr h => ⟨_, pss_cons (ps_set (i := 3) sc_take_other_place.nd rfl (Or.inl rfl) (pe_cx (ok_take_name T) hr (by decide) rfl (takes_of rfl rfl rfl rfl) (pa_cons (pv 1) pa_nil))) (pss_cons (ps_set (i := 4) sc_take_other_place.nd rfl (Or.inl rfl) (pe_cx (ok_place_of_word T) hr (by decide) rfl (takes_of rfl rfl rfl rfl) (pa_cons (pv 0) (pa_cons (pv 3) pa_nil)))) (pss_cons (ps_if (pt_cmpR op_eq (pv 4) (pv 2) (nomark _)) (pss_one (ps_raiseTextFault rfl (T.TextFault) hr (takes_of rfl rfl rfl rfl) (pa_cons (C8.pe_gc rfl (i_SAME_PLACE T)) (pa_cons (pe_fld (pv 3) rfl) pa_nil)))) (pss_nil)) (pss_one (ps_ret (pv 4))))), ?_⟩), g_take_other_place T, F.kp, F.bindsN (fun _ _ _ _ _ _ us hl => match us, hl with | [_, _, _], _ => rfl)⟩⟩
  · obtain ⟨S, na, lp, lc, ld, la, n, r, a, rfl, _⟩ := h
    rfl
  · obtain ⟨S, na, lp, lc, ld, la, n, r, a, rfl, hm, hI, hR, k⟩ := h
    unfold otherIn at k
    refine ⟨_, rfl, (· ∉ S), la, r, rfl, hR, fun z => ?_, fun x m ex hb => ?_, fun x m ex hb b H1 hw hr1 k1 => ?_⟩
    · rw [placeIn_nil z] at k
      exact k
    · rw [placeIn_cons ex, if_neg (fun z => Bool.false_ne_true (hb.symm.trans z))] at k
      exact k
    · rw [placeIn_cons ex, if_pos hb] at k
      refine ⟨_, rfl, _, rfl, S, (· ∉ S), na, lp, lc, ld, b, n, x, rfl, hI.line hR hm k1, hw, fun z => ?_, fun i z H2 s2 => ?_⟩
      · rw [z] at k
        exact fun H2 d k2 hd => k H2 d (k1.trans (k2.mono (by simp))) hd
      · rw [z, placeOf_cons ex] at k
        obtain ⟨dx, sg, e1, e2, e3⟩ := hw
        have k : Reads K (· ∉ S) (fun (i : Nat) => V.int i) H la Q E (if a = i then .error ⟨6, x.at_⟩ else .ok (i, { r with words := m })) := k
        refine ⟨_, rfl, _, rfl, rfl, _, rfl, ?_⟩
        by_cases c : V.int ((i : Nat) : Int) = V.int ((a : Nat) : Int)
        · have c0 : a = i := by
            have := V.int.inj c
            omega
          rw [if_pos c0] at k
          refine ifT (decide_eq_true c) ⟨_, rfl, b, _, dx, _, _, rfl, s2 _ _ e1, c_Word T, n_Word_place T, rfl, _, _, rfl, fun D hD => ?_⟩
          exact k _ D ((k1.trans (Same.keeps s2)).trans (Same.keeps (same_new hD))) upd_same
        · rw [if_neg (fun z => c (by rw [z]))] at k
          exact ifF (decide_eq_false c) ⟨_, rfl, k H2 (hr1.same s2) (k1.trans (Same.keeps s2))⟩
end
end SJ
end
section
set_option Elab.async false
set_option linter.all false
set_option maxRecDepth 100000
set_option maxHeartbeats 4000000
/-! The defs of reading.py: a line's thing. -/
namespace SJ
open PySem PySem.Spec PyProof.Rows L2
section
variable {P : Program} {w : World} {K : PySem.W.Frag} {mg : Str → Option Value} {base : Heap}
def placeLine (n : Vbtoad.Net) (q : Vbbtaa.Rest) : Except Vbbtaa.Fault (Vbtoad.Place × Vbbtaa.Rest) := match newIn (n.places.map fun p => p.name) q with
  | .error e => .error e
  | .ok (t, y) => if y.words = [] then .ok (⟨t, 0⟩, y) else match Vbtoad.numberIn 0 Vbtoad.HANDLING y with
    | .error e => .error e
    | .ok (h, y) => .ok (⟨t, h⟩, y)
def carLine (n : Vbtoad.Net) (q : Vbbtaa.Rest) : Except Vbbtaa.Fault (Vbtoad.Car × Vbbtaa.Rest) := match newIn ((n.cars.map fun c => c.name) ++ n.goes.map fun g => g.name) q with
  | .error e => .error e
  | .ok (t, y) => match Vbtoad.placeIn n y with
    | .error e => .error e
    | .ok (a, y) => match otherIn n a y with
      | .error e => .error e
      | .ok (b, v) => match Vbtoad.numberIn 1 Vbtoad.LONG v with
        | .error e => .error e
        | .ok (m, v) => .ok (⟨t, a, b, m⟩, v)
def goLine (n : Vbtoad.Net) (q : Vbbtaa.Rest) : Except Vbbtaa.Fault (Vbtoad.Go × Vbbtaa.Rest) := match newIn ((n.cars.map fun c => c.name) ++ n.goes.map fun g => g.name) q with
  | .error e => .error e
  | .ok (t, y) => match Vbtoad.placeIn n y with
    | .error e => .error e
    | .ok (a, y) => match Vbtoad.numberIn 0 Vbtoad.LATE y with
      | .error e => .error e
      | .ok (d, y) => match otherIn n a y with
        | .error e => .error e
        | .ok (b, v) => match laterIn d v with
          | .error e => .error e
          | .ok (m, u) => .ok (⟨t, a, d, b, m⟩, u)
/-- a thing is read off the line at la: a new object -/
def ReadsO {α : Type} (K : PySem.W.Frag) (S : List Addr) (R : Hp → Addr → α → Prop) (H : Hp) (la : Addr) (Q : VK) (E : XK) : Except Vbbtaa.Fault (α × Vbbtaa.Rest) → Prop
  | .error e => OutF K [la] H E e
  | .ok (x, r) => ∀ b H1, R H1 b x → RestAt K (· ∉ S) H1 la r → Keeps [la] H H1 → Q (.ref b) H1
/-- what the object at la has been used for -/
theorem used_keeps {S : List Addr} {H H1 : Hp} {la : Addr} (u : Used S H) (k : Keeps [la] H H1) (h : H1 la ≠ none) : Used S H1 := fun c hc z => by
  by_cases e : c = la
  · rw [e] at z
    exact h z
  · cases q : H c with
    | none => exact u c hc q
    | some o =>
      rw [k.at_ne e q] at z
      cases z
def sp_read_place (K : PySem.W.Frag) : Sp := fun vs H Q E => ∃ (S : List Addr) (na lp lc ld la : Addr) (n : Vbtoad.Net) (r : Vbbtaa.Rest), vs = [.ref na, .ref la] ∧ la ∈ S ∧ Used S H ∧ NetIs K S H na lp lc ld n ∧ RestAt K (· ∉ S) H la r ∧ ReadsO K S (PlaceAt K S) H la Q E (placeLine n r)
theorem sc_read_place : FnScope ["net", "line", "name", "handling"] ["net", "line"] d_read_place.scope := ⟨rfl, rfl, rfl, by decide +kernel, rfl, by decide +kernel, by decide +kernel⟩
theorem ok_read_place (T : Fx K mg base) : FnX P w K mg base 6 "read_place" (sp_read_place K) := by
  obtain ⟨fd, F⟩ := F_read_place T
  refine ⟨⟨_, fd, ["net", "line"], F.ok sc_read_place (fun vs H Q E h => ?_) (fun cdv A outer s H vs Q E hr h => ⟨_, pss_cons (ps_set (i := 2) sc_read_place.nd rfl (Or.inl rfl) (pe_cx (ok_take_new_name T) hr (by decide) rfl (takes_of rfl rfl rfl rfl) (pa_cons (pv 1) (pa_cons (pe_fld (pv 0) rfl) pa_nil)))) (pss_cons (ps_set (i := 3) sc_read_place.nd rfl (Or.inl rfl) (pe_int)) (pss_cons (ps_if (pt_val (pe_m00 (ok_Line_has_more T) hr (by decide) (pv 1))) (pss_one (ps_set (i := 3) sc_read_place.nd rfl (Or.inl rfl) (pe_cx (ok_take_number_between T) hr (by decide) rfl (takes_of rfl rfl rfl rfl) (pa_cons (pv 1) (pa_cons (pe_int) (pa_cons (C8.pe_gc rfl (i_MOST_HANDLING T)) pa_nil)))))) (pss_nil)) (pss_one (ps_ret (pe_k0 (ok_Place_init T) hr (by decide) rfl (pa_cons (pv 2) (pa_cons (pv 3) pa_nil))))))), ?_⟩), g_read_place T, F.kp, F.bindsN (fun _ _ _ _ _ _ us hl => match us, hl with | [_, _], _ => rfl)⟩⟩
  · obtain ⟨S, na, lp, lc, ld, la, n, r, rfl, _⟩ := h
    rfl
  · obtain ⟨S, na, lp, lc, ld, la, n, r, rfl, hm, hU, hI, hR, k⟩ := h
    obtain ⟨⟨⟨dn, en⟩, ea⟩, ⟨ps, ep, rp⟩, _, _⟩ := id hI
    refine ⟨_, rfl, _, rfl, na, _, dn, _, _, rfl, en, c_Net T, n_Net_places T, rfl, (· ∉ S), la, lp, r, ps, n.places.map (fun p => p.name), rfl, hR, ep, rp.map (f := fun p => p.name) (fun b g z => PlaceAt.named (S := S) T z), ?_⟩
    unfold placeLine at k
    cases c : newIn (n.places.map fun p => p.name) r with
    | error e =>
      rw [c] at k
      exact k
    | ok ty =>
      obtain ⟨t, y⟩ := ty
      rw [c] at k
      intro sg H1 hsg hN hR1 k1
      obtain ⟨ws, j, hL, hj, ew⟩ := id hR1
      obtain ⟨dl, lw, xl, l1, _⟩ := id hL
      -- a Place is made
      have fin : ∀ (h : Nat) (y1 : Vbbtaa.Rest), (∀ b H1, PlaceAt K S H1 b ⟨t, h⟩ → RestAt K (· ∉ S) H1 la y1 → Keeps [la] H H1 → Q (.ref b) H1) → ∀ H2, RestAt K (· ∉ S) H2 la y1 → Keeps [la] H1 H2 →
          ∀ x dx, H2 x = none → H2 dx = none → dx ≠ x → sp_Place_init K [.ref x, .ref sg, .int h] (upd (upd H2 dx (.own x)) x (.ins (He.ga K "Place") dx [])) (fun v H3 => v = .non ∧ Q (.ref x) H3) E0 := by
        intro h y1 q H2 hR2 k2 x dx nx nd ne
        refine ⟨x, dx, _, _, rfl, upd_same, fun H4 h4 k4 => ⟨rfl, ?_⟩⟩
        have s4 : Same H2 H4 := fun c o ec => by
          have cx : c ≠ x := ne_of_none ec nx
          rw [k4 c cx, upd_ne cx, upd_ne (ne_of_none ec nd)]
          exact ec
        have hsg2 : H2 sg = some (.lst (nv t)) := k2.at_ne (hR1.ne_lst hsg) hsg
        exact q x H4 ⟨dx, sg, h4, (used_keeps hU (k1.trans k2) hR2.isLine).new nx, s4 _ _ hsg2, hN⟩ (hR2.same s4) ((k1.trans k2).trans (Same.keeps s4))
      refine ⟨_, rfl, la, dl, _, rfl, l1, rfl, (· ∉ S), la, ws, y.halt_, j, rfl, hL, _, rfl, ?_⟩
      have k : ReadsO K S (PlaceAt K S) H la Q E (if y.words = [] then .ok (⟨t, 0⟩, y) else match Vbtoad.numberIn 0 Vbtoad.HANDLING y with
        | .error e => .error e
        | .ok (h, y) => .ok (⟨t, h⟩, y)) := k
      by_cases cj : j < ws.length
      · rw [if_neg (by rw [ew, List.drop_eq_getElem_cons cj]; exact List.cons_ne_nil _ _)] at k
        refine ifT (decide_eq_true cj) ⟨_, rfl, (· ∉ S), la, y, 0, Vbtoad.HANDLING, rfl, hR1, ?_⟩
        cases c2 : Vbtoad.numberIn 0 Vbtoad.HANDLING y with
        | error e =>
          rw [c2] at k
          exact OutF.back k k1 fun _ z => z
        | ok hy =>
          obtain ⟨h, y1⟩ := hy
          rw [c2] at k
          intro H2 hR2 k2
          exact ⟨_, rfl, _, rfl, fin h y1 k H2 hR2 k2⟩
      · rw [if_pos (by rw [ew]; exact List.drop_eq_nil_of_le (by omega))] at k
        exact ifF (decide_eq_false cj) ⟨_, rfl, _, rfl, fin 0 y k H1 hR1 (Keeps.refl _ _)⟩
def sp_read_car (K : PySem.W.Frag) : Sp := fun vs H Q E => ∃ (S : List Addr) (na lp lc ld la : Addr) (n : Vbtoad.Net) (r : Vbbtaa.Rest), vs = [.ref na, .ref la] ∧ la ∈ S ∧ Used S H ∧ n.cars.length + n.goes.length ≤ 1000 ∧ NetIs K S H na lp lc ld n ∧ RestAt K (· ∉ S) H la r ∧ ReadsO K S (CarAt K S) H la Q E (carLine n r)
theorem sc_read_car : FnScope ["net", "line", "name", "origin", "end", "minutes"] ["net", "line"] d_read_car.scope := ⟨rfl, rfl, rfl, by decide +kernel, rfl, by decide +kernel, by decide +kernel⟩
theorem ok_read_car (T : Fx K mg base) : FnX P w K mg base 6 "read_car" (sp_read_car K) := by
  obtain ⟨fd, F⟩ := F_read_car T
  refine ⟨⟨_, fd, ["net", "line"], F.ok sc_read_car (fun vs H Q E h => ?_) (fun cdv A outer s H vs Q E hr h => ⟨_, pss_cons (ps_set (i := 2) sc_read_car.nd rfl (Or.inl rfl) (pe_cx (ok_take_new_name T) hr (by decide) rfl (takes_of rfl rfl rfl rfl) (pa_cons (pv 1) (pa_cons (pe_op op_cat (pe_fld (pv 0) rfl) (pe_fld (pv 0) rfl)) pa_nil)))) (pss_cons (ps_set (i := 3) sc_read_car.nd rfl (Or.inl rfl) (pe_cx (ok_take_place T) hr (by decide) rfl (takes_of rfl rfl rfl rfl) (pa_cons (pv 0) (pa_cons (pv 1) pa_nil)))) (pss_cons (ps_set (i := 4) sc_read_car.nd rfl (Or.inl rfl) (pe_cx (ok_take_other_place T) hr (by decide) rfl (takes_of rfl rfl rfl rfl) (pa_cons (pv 0) (pa_cons (pv 1) (pa_cons (pv 3) pa_nil))))) (pss_cons (ps_set (i := 5) sc_read_car.nd rfl (Or.inl rfl) (pe_cx (ok_take_number_between T) hr (by decide) rfl (takes_of rfl rfl rfl rfl) (pa_cons (pv 1) (pa_cons (pe_int) (pa_cons (C8.pe_gc rfl (i_LONGEST_CAR T)) pa_nil))))) (pss_one (ps_ret (pe_k0 (ok_Car_init T) hr (by decide) rfl (pa_cons (pv 2) (pa_cons (pv 3) (pa_cons (pv 4) (pa_cons (pv 5) pa_nil)))))))))), ?_⟩), g_read_car T, F.kp, F.bindsN (fun _ _ _ _ _ _ us hl => match us, hl with | [_, _], _ => rfl)⟩⟩
  · obtain ⟨S, na, lp, lc, ld, la, n, r, rfl, _⟩ := h
    rfl
  · obtain ⟨S, na, lp, lc, ld, la, n, r, rfl, hm, hU, hsz, hI, hR, k⟩ := h
    obtain ⟨⟨⟨dn, en⟩, ea⟩, _, ⟨cs, ec, rc⟩, ⟨ds, ed, rd⟩⟩ := id hI
    refine ⟨_, rfl, _, rfl, na, _, dn, _, _, rfl, en, c_Net T, n_Net_cars T, rfl, _, rfl, na, _, dn, _, _, rfl, en, c_Net T, n_Net_departures T, rfl, lc, ld, cs, ds, rfl, rfl, ec, ed, (by rw [rc.len, rd.len, sizeLine_eq]; omega), fun p hp => ?_⟩
    have s0 : Same H (upd H p (.lst (cs ++ ds))) := same_new hp
    generalize hH0 : upd H p (.lst (cs ++ ds)) = H0 at s0
    have k0 : Keeps [la] H H0 := Same.keeps s0
    have e0 : H0 p = some (.lst (cs ++ ds)) := by rw [← hH0]; exact upd_same
    have hR0 := hR.same s0
    have hI0 := hI.line hR hm k0
    refine ⟨(· ∉ S), la, p, r, _, (n.cars.map fun c => c.name) ++ n.goes.map fun g => g.name, rfl, hR0, e0, ((rc.map (f := fun c => c.name) (fun b g z => CarAt.named (S := S) T z)).append (rd.map (f := fun g => g.name) (fun b g z => GoAt.named (S := S) T z))).mono fun _ _ y => y.same s0, ?_⟩
    unfold carLine at k
    cases c : newIn ((n.cars.map fun c => c.name) ++ n.goes.map fun g => g.name) r with
    | error e =>
      rw [c] at k
      exact OutF.back k k0 fun _ z => z
    | ok ty =>
      obtain ⟨t, y⟩ := ty
      rw [c] at k
      intro sg H1 hsg hN hR1 k1
      have hI1 := hI0.line hR0 hm k1
      refine ⟨_, rfl, _, rfl, S, na, lp, lc, ld, la, n, y, rfl, hm, hI1, hR1, ?_⟩
      cases c2 : Vbtoad.placeIn n y with
      | error e =>
        dsimp only at k
        rw [c2] at k
        exact OutF.back k (k0.trans k1) fun _ z => z
      | ok z2 =>
        obtain ⟨a, y2⟩ := z2
        dsimp only at k
        rw [c2] at k
        intro H2 hR2 k2
        have hI2 := hI1.line hR1 hm k2
        refine ⟨_, rfl, _, rfl, _, rfl, S, na, lp, lc, ld, la, n, y2, a, rfl, hm, hI2, hR2, ?_⟩
        cases c3 : otherIn n a y2 with
        | error e =>
          dsimp only at k
          rw [c3] at k
          exact OutF.back k ((k0.trans k1).trans k2) fun _ z => z
        | ok z3 =>
          obtain ⟨b, y3⟩ := z3
          dsimp only at k
          rw [c3] at k
          intro H3 hR3 k3
          have hI3 := hI2.line hR2 hm k3
          refine ⟨_, rfl, (· ∉ S), la, y3, 1, Vbtoad.LONG, rfl, hR3, ?_⟩
          cases c4 : Vbtoad.numberIn 1 Vbtoad.LONG y3 with
          | error e =>
            dsimp only at k
            rw [c4] at k
            exact OutF.back k (((k0.trans k1).trans k2).trans k3) fun _ z => z
          | ok z4 =>
            obtain ⟨m, y4⟩ := z4
            dsimp only at k
            rw [c4] at k
            intro H4 hR4 k4
            refine ⟨_, rfl, _, rfl, _, rfl, _, rfl, fun x dx nx nd ne => ⟨x, dx, _, _, _, _, rfl, upd_same, fun H5 h5 q5 => ⟨rfl, ?_⟩⟩⟩
            have s5 : Same H4 H5 := fun c o ec => by
              have cx : c ≠ x := ne_of_none ec nx
              rw [q5 c cx, upd_ne cx, upd_ne (ne_of_none ec nd)]
              exact ec
            have kk := (k2.trans k3).trans k4
            have hsg4 : H4 sg = some (.lst (nv t)) := kk.at_ne (hR1.ne_lst hsg) hsg
            have ka := (k0.trans k1).trans kk
            exact k x H5 ⟨dx, sg, h5, (used_keeps hU ka hR4.isLine).new nx, s5 _ _ hsg4, hN⟩ (hR4.same s5) (ka.trans (Same.keeps s5))
def sp_read_departure (K : PySem.W.Frag) : Sp := fun vs H Q E => ∃ (S : List Addr) (na lp lc ld la : Addr) (n : Vbtoad.Net) (r : Vbbtaa.Rest), vs = [.ref na, .ref la] ∧ la ∈ S ∧ Used S H ∧ n.cars.length + n.goes.length ≤ 1000 ∧ NetIs K S H na lp lc ld n ∧ RestAt K (· ∉ S) H la r ∧ ReadsO K S (GoAt K S) H la Q E (goLine n r)
theorem sc_read_departure : FnScope ["net", "line", "name", "origin", "leaves", "end", "comes"] ["net", "line"] d_read_departure.scope := ⟨rfl, rfl, rfl, by decide +kernel, rfl, by decide +kernel, by decide +kernel⟩
theorem ok_read_departure (T : Fx K mg base) : FnX P w K mg base 6 "read_departure" (sp_read_departure K) := by
  obtain ⟨fd, F⟩ := F_read_departure T
  refine ⟨⟨_, fd, ["net", "line"], F.ok sc_read_departure (fun vs H Q E h => ?_) (fun cdv A outer s H vs Q E hr h => ⟨_, pss_cons (ps_set (i := 2) sc_read_departure.nd rfl (Or.inl rfl) (pe_cx (ok_take_new_name T) hr (by decide) rfl (takes_of rfl rfl rfl rfl) (pa_cons (pv 1) (pa_cons (pe_op op_cat (pe_fld (pv 0) rfl) (pe_fld (pv 0) rfl)) pa_nil)))) (pss_cons (ps_set (i := 3) sc_read_departure.nd rfl (Or.inl rfl) (pe_cx (ok_take_place T) hr (by decide) rfl (takes_of rfl rfl rfl rfl) (pa_cons (pv 0) (pa_cons (pv 1) pa_nil)))) (pss_cons (ps_set (i := 4) sc_read_departure.nd rfl (Or.inl rfl) (pe_cx (ok_take_number_between T) hr (by decide) rfl (takes_of rfl rfl rfl rfl) (pa_cons (pv 1) (pa_cons (pe_int) (pa_cons (C8.pe_gc rfl (i_LAST_MINUTE T)) pa_nil))))) (pss_cons (ps_set (i := 5) sc_read_departure.nd rfl (Or.inl rfl) (pe_cx (ok_take_other_place T) hr (by decide) rfl (takes_of rfl rfl rfl rfl) (pa_cons (pv 0) (pa_cons (pv 1) (pa_cons (pv 3) pa_nil))))) (pss_cons (ps_set (i := 6) sc_read_departure.nd rfl (Or.inl rfl) (pe_cx (ok_take_later_minute T) hr (by decide) rfl (takes_of rfl rfl rfl rfl) (pa_cons (pv 1) (pa_cons (pv 4) pa_nil)))) (pss_one (ps_ret (pe_k0 (ok_Departure_init T) hr (by decide) rfl (pa_cons (pv 2) (pa_cons (pv 3) (pa_cons (pv 4) (pa_cons (pv 5) (pa_cons (pv 6) pa_nil)))))))))))), ?_⟩), g_read_departure T, F.kp, F.bindsN (fun _ _ _ _ _ _ us hl => match us, hl with | [_, _], _ => rfl)⟩⟩
  · obtain ⟨S, na, lp, lc, ld, la, n, r, rfl, _⟩ := h
    rfl
  · obtain ⟨S, na, lp, lc, ld, la, n, r, rfl, hm, hU, hsz, hI, hR, k⟩ := h
    obtain ⟨⟨⟨dn, en⟩, ea⟩, _, ⟨cs, ec, rc⟩, ⟨ds, ed, rd⟩⟩ := id hI
    refine ⟨_, rfl, _, rfl, na, _, dn, _, _, rfl, en, c_Net T, n_Net_cars T, rfl, _, rfl, na, _, dn, _, _, rfl, en, c_Net T, n_Net_departures T, rfl, lc, ld, cs, ds, rfl, rfl, ec, ed, (by rw [rc.len, rd.len, sizeLine_eq]; omega), fun p hp => ?_⟩
    have s0 : Same H (upd H p (.lst (cs ++ ds))) := same_new hp
    generalize hH0 : upd H p (.lst (cs ++ ds)) = H0 at s0
    have k0 : Keeps [la] H H0 := Same.keeps s0
    have e0 : H0 p = some (.lst (cs ++ ds)) := by rw [← hH0]; exact upd_same
    have hR0 := hR.same s0
    have hI0 := hI.line hR hm k0
    refine ⟨(· ∉ S), la, p, r, _, (n.cars.map fun c => c.name) ++ n.goes.map fun g => g.name, rfl, hR0, e0, ((rc.map (f := fun c => c.name) (fun b g z => CarAt.named (S := S) T z)).append (rd.map (f := fun g => g.name) (fun b g z => GoAt.named (S := S) T z))).mono fun _ _ y => y.same s0, ?_⟩
    unfold goLine at k
    cases c : newIn ((n.cars.map fun c => c.name) ++ n.goes.map fun g => g.name) r with
    | error e =>
      rw [c] at k
      exact OutF.back k k0 fun _ z => z
    | ok ty =>
      obtain ⟨t, y⟩ := ty
      rw [c] at k
      intro sg H1 hsg hN hR1 k1
      have hI1 := hI0.line hR0 hm k1
      refine ⟨_, rfl, _, rfl, S, na, lp, lc, ld, la, n, y, rfl, hm, hI1, hR1, ?_⟩
      cases c2 : Vbtoad.placeIn n y with
      | error e =>
        dsimp only at k
        rw [c2] at k
        exact OutF.back k (k0.trans k1) fun _ z => z
      | ok z2 =>
        obtain ⟨a, y2⟩ := z2
        dsimp only at k
        rw [c2] at k
        intro H2 hR2 k2
        have hI2 := hI1.line hR1 hm k2
        refine ⟨_, rfl, (· ∉ S), la, y2, 0, Vbtoad.LATE, rfl, hR2, ?_⟩
        cases c3 : Vbtoad.numberIn 0 Vbtoad.LATE y2 with
        | error e =>
          dsimp only at k
          rw [c3] at k
          exact OutF.back k ((k0.trans k1).trans k2) fun _ z => z
        | ok z3 =>
          obtain ⟨d, y3⟩ := z3
          dsimp only at k
          rw [c3] at k
          intro H3 hR3 k3
          have hI3 := hI2.line hR2 hm k3
          refine ⟨_, rfl, _, rfl, _, rfl, S, na, lp, lc, ld, la, n, y3, a, rfl, hm, hI3, hR3, ?_⟩
          cases c4 : otherIn n a y3 with
          | error e =>
            dsimp only at k
            rw [c4] at k
            exact OutF.back k (((k0.trans k1).trans k2).trans k3) fun _ z => z
          | ok z4 =>
            obtain ⟨b, y4⟩ := z4
            dsimp only at k
            rw [c4] at k
            intro H4 hR4 k4
            refine ⟨_, rfl, _, rfl, (· ∉ S), la, y4, d, rfl, hR4, ?_⟩
            cases c5 : laterIn d y4 with
            | error e =>
              dsimp only at k
              rw [c5] at k
              exact OutF.back k ((((k0.trans k1).trans k2).trans k3).trans k4) fun _ z => z
            | ok z5 =>
              obtain ⟨m, y5⟩ := z5
              dsimp only at k
              rw [c5] at k
              intro H5 hR5 k5
              refine ⟨_, rfl, _, rfl, _, rfl, _, rfl, _, rfl, fun x dx nx nd ne => ⟨x, dx, _, _, _, _, _, rfl, upd_same, fun H6 h6 q6 => ⟨rfl, ?_⟩⟩⟩
              have s6 : Same H5 H6 := fun c o ec => by
                have cx : c ≠ x := ne_of_none ec nx
                rw [q6 c cx, upd_ne cx, upd_ne (ne_of_none ec nd)]
                exact ec
              have kk := ((k2.trans k3).trans k4).trans k5
              have hsg5 : H5 sg = some (.lst (nv t)) := kk.at_ne (hR1.ne_lst hsg) hsg
              have ka := (k0.trans k1).trans kk
              exact k x H6 ⟨dx, sg, h6, (used_keeps hU ka hR5.isLine).new nx, s6 _ _ hsg5, hN⟩ (hR5.same s6) (ka.trans (Same.keeps s6))
end
end SJ
end
section
set_option Elab.async false
set_option linter.all false
set_option maxRecDepth 100000
set_option maxHeartbeats 4000000
/-! The defs of reading.py: a line, a text. -/
namespace SJ
open PySem PySem.Spec PyProof.Rows L2
section
variable {P : Program} {w : World} {K : PySem.W.Frag} {mg : Str → Option Value} {base : Heap}
theorem fresh_is (n : Vbtoad.Net) (r : Vbbtaa.Rest) : Vbtoad.freshIn n r = newIn ((n.cars.map fun c => c.name) ++ n.goes.map fun g => g.name) r := by
  unfold Vbtoad.freshIn newIn
  cases Vbtoad.nameIn r with
  | error e => rfl
  | ok z =>
    obtain ⟨t, q⟩ := z
    dsimp only
    rw [List.any_append, List.any_map, List.any_map]
    rfl
/-- **What a line says**, thing by thing. -/
theorem lineIn_cons {n : Vbtoad.Net} {r : Vbbtaa.Rest} {x : Vbbtaa.Word} {l : List Vbbtaa.Word} (h : r.words = x :: l) : Vbtoad.lineIn n r =
    if x.text = Vbbtaa.chars "place" then (if Vbtoad.PLACES ≤ n.places.length then .error ⟨7, x.at_⟩ else match placeLine n { r with words := l } with
      | .error e => .error e
      | .ok (p, y) => Vbbtaa.ended 1 { n with places := n.places ++ [p] } y)
    else if x.text = Vbbtaa.chars "car" then (if Vbtoad.CARS ≤ n.cars.length then .error ⟨7, x.at_⟩ else match carLine n { r with words := l } with
      | .error e => .error e
      | .ok (p, y) => Vbbtaa.ended 1 { n with cars := n.cars ++ [p] } y)
    else if x.text = Vbbtaa.chars "go" then (if Vbtoad.GOES ≤ n.goes.length then .error ⟨7, x.at_⟩ else match goLine n { r with words := l } with
      | .error e => .error e
      | .ok (p, y) => Vbbtaa.ended 1 { n with goes := n.goes ++ [p] } y)
    else .error ⟨1, x.at_⟩ := by
  unfold Vbtoad.lineIn
  rw [h]
  dsimp only
  by_cases c1 : x.text = Vbbtaa.chars "place"
  · rw [if_pos c1, if_pos c1]
    by_cases c2 : Vbtoad.PLACES ≤ n.places.length
    · rw [if_pos c2, if_pos c2]
    · rw [if_neg c2, if_neg c2]
      unfold placeLine newIn
      cases Vbtoad.nameIn { r with words := l } with
      | error e => rfl
      | ok z =>
        obtain ⟨t, y⟩ := z
        dsimp only
        rw [List.any_map]
        show (if (n.places.any fun p => p.name == t) = true then _ else _) = _
        have e : (n.places.any ((fun x => x == t) ∘ fun p => p.name)) = n.places.any fun p => p.name == t := rfl
        rw [e]
        by_cases c3 : (n.places.any fun p => p.name == t) = true
        · rw [if_pos c3, if_pos c3]
        · rw [if_neg c3, if_neg c3]
          dsimp only
          by_cases c4 : y.words = []
          · rw [if_pos c4, if_pos c4]
            dsimp only
            unfold Vbbtaa.ended
            rw [c4]
          · rw [if_neg c4, if_neg c4]
            cases Vbtoad.numberIn 0 Vbtoad.HANDLING y with
            | error e => rfl
            | ok z => rfl
  · rw [if_neg c1, if_neg c1]
    by_cases c2 : x.text = Vbbtaa.chars "car"
    · rw [if_pos c2, if_pos c2]
      by_cases c3 : Vbtoad.CARS ≤ n.cars.length
      · rw [if_pos c3, if_pos c3]
      · rw [if_neg c3, if_neg c3, fresh_is]
        unfold carLine
        cases newIn ((n.cars.map fun c => c.name) ++ n.goes.map fun g => g.name) { r with words := l } with
        | error e => rfl
        | ok z =>
          obtain ⟨t, y⟩ := z
          dsimp only
          cases Vbtoad.placeIn n y with
          | error e => rfl
          | ok z =>
            obtain ⟨a, y⟩ := z
            dsimp only
            unfold otherIn
            cases Vbtoad.placeIn n y with
            | error e => rfl
            | ok z =>
              obtain ⟨b, v⟩ := z
              dsimp only
              by_cases c4 : a = b
              · rw [if_pos c4, if_pos c4]
              · rw [if_neg c4, if_neg c4]
                dsimp only
                cases Vbtoad.numberIn 1 Vbtoad.LONG v with
                | error e => rfl
                | ok z => rfl
    · rw [if_neg c2, if_neg c2]
      by_cases c3 : x.text = Vbbtaa.chars "go"
      · rw [if_pos c3, if_pos c3]
        by_cases c4 : Vbtoad.GOES ≤ n.goes.length
        · rw [if_pos c4, if_pos c4]
        · rw [if_neg c4, if_neg c4, fresh_is]
          unfold goLine
          cases newIn ((n.cars.map fun c => c.name) ++ n.goes.map fun g => g.name) { r with words := l } with
          | error e => rfl
          | ok z =>
            obtain ⟨t, y⟩ := z
            dsimp only
            cases Vbtoad.placeIn n y with
            | error e => rfl
            | ok z =>
              obtain ⟨a, y⟩ := z
              dsimp only
              cases Vbtoad.numberIn 0 Vbtoad.LATE y with
              | error e => rfl
              | ok z =>
                obtain ⟨d, y⟩ := z
                dsimp only
                unfold otherIn
                cases Vbtoad.placeIn n y with
                | error e => rfl
                | ok z =>
                  obtain ⟨b, v⟩ := z
                  dsimp only
                  by_cases c5 : a = b
                  · rw [if_pos c5, if_pos c5]
                  · rw [if_neg c5, if_neg c5]
                    dsimp only
                    unfold laterIn
                    cases Vbtoad.numberIn 0 Vbtoad.LATE v with
                    | error e => rfl
                    | ok z =>
                      obtain ⟨m, u⟩ := z
                      dsimp only
                      by_cases c6 : m ≤ d
                      · rw [if_pos c6, if_pos c6]
                      · rw [if_neg c6, if_neg c6]
      · rw [if_neg c3, if_neg c3]
theorem keeps_upd {S : List Addr} {H : Hp} {p : Addr} {o : HO} (hm : p ∈ S) : Keeps S H (upd H p o) := fun c u hc e => by
  rw [upd_ne (fun z => hc (by rw [z]; exact hm))]
  exact e
theorem NetIs.addPlace {S : List Addr} {H : Hp} {na lp lc ld b : Addr} {n : Vbtoad.Net} {x : Vbtoad.Place} {xs : List V} (h : NetIs K S H na lp lc ld n) (hm : lp ∈ S) (n1 : lc ≠ lp) (n2 : ld ≠ lp) (e : H lp = some (.lst xs)) (hb : PlaceAt K S H b x) :
    NetIs K S (upd H lp (.lst (xs ++ [.ref b]))) na lp lc ld { n with places := n.places ++ [x] } := by
  obtain ⟨⟨⟨dn, en⟩, ea⟩, ⟨ps, ep, rp⟩, ⟨cs, ec, rc⟩, ⟨ds, ed, rd⟩⟩ := h
  have k : Keeps S H (upd H lp (.lst (xs ++ [.ref b]))) := keeps_upd hm
  obtain rfl : xs = ps := by
    rw [e] at ep
    exact HO.lst.inj (Option.some.inj ep)
  exact ⟨⟨⟨dn, k _ _ ea en⟩, ea⟩, ⟨_, upd_same, (rp.snoc hb).mono fun _ _ z => z.keep k⟩, ⟨cs, by rw [upd_ne n1]; exact ec, rc.mono fun _ _ z => z.keep k⟩, ⟨ds, by rw [upd_ne n2]; exact ed, rd.mono fun _ _ z => z.keep k⟩⟩
theorem NetIs.addCar {S : List Addr} {H : Hp} {na lp lc ld b : Addr} {n : Vbtoad.Net} {x : Vbtoad.Car} {xs : List V} (h : NetIs K S H na lp lc ld n) (hm : lc ∈ S) (n1 : lp ≠ lc) (n2 : ld ≠ lc) (e : H lc = some (.lst xs)) (hb : CarAt K S H b x) :
    NetIs K S (upd H lc (.lst (xs ++ [.ref b]))) na lp lc ld { n with cars := n.cars ++ [x] } := by
  obtain ⟨⟨⟨dn, en⟩, ea⟩, ⟨ps, ep, rp⟩, ⟨cs, ec, rc⟩, ⟨ds, ed, rd⟩⟩ := h
  have k : Keeps S H (upd H lc (.lst (xs ++ [.ref b]))) := keeps_upd hm
  obtain rfl : xs = cs := by
    rw [e] at ec
    exact HO.lst.inj (Option.some.inj ec)
  exact ⟨⟨⟨dn, k _ _ ea en⟩, ea⟩, ⟨ps, by rw [upd_ne n1]; exact ep, rp.mono fun _ _ z => z.keep k⟩, ⟨_, upd_same, (rc.snoc hb).mono fun _ _ z => z.keep k⟩, ⟨ds, by rw [upd_ne n2]; exact ed, rd.mono fun _ _ z => z.keep k⟩⟩
theorem NetIs.addGo {S : List Addr} {H : Hp} {na lp lc ld b : Addr} {n : Vbtoad.Net} {x : Vbtoad.Go} {xs : List V} (h : NetIs K S H na lp lc ld n) (hm : ld ∈ S) (n1 : lp ≠ ld) (n2 : lc ≠ ld) (e : H ld = some (.lst xs)) (hb : GoAt K S H b x) :
    NetIs K S (upd H ld (.lst (xs ++ [.ref b]))) na lp lc ld { n with goes := n.goes ++ [x] } := by
  obtain ⟨⟨⟨dn, en⟩, ea⟩, ⟨ps, ep, rp⟩, ⟨cs, ec, rc⟩, ⟨ds, ed, rd⟩⟩ := h
  have k : Keeps S H (upd H ld (.lst (xs ++ [.ref b]))) := keeps_upd hm
  obtain rfl : xs = ds := by
    rw [e] at ed
    exact HO.lst.inj (Option.some.inj ed)
  exact ⟨⟨⟨dn, k _ _ ea en⟩, ea⟩, ⟨ps, by rw [upd_ne n1]; exact ep, rp.mono fun _ _ z => z.keep k⟩, ⟨cs, by rw [upd_ne n2]; exact ec, rc.mono fun _ _ z => z.keep k⟩, ⟨_, upd_same, (rd.snoc hb).mono fun _ _ z => z.keep k⟩⟩
/-- a line is read into the net, or it faults -/
def LineQ (K : PySem.W.Frag) (S : List Addr) (H : Hp) (na lp lc ld la : Addr) (Q : VK) (E : XK) : Except Vbbtaa.Fault Vbtoad.Net → Prop
  | .error e => OutF K [la, lp, lc, ld] H E e
  | .ok m => ∀ H1, NetIs K S H1 na lp lc ld m → Used S H1 → Keeps [la, lp, lc, ld] H H1 → Q .non H1
def sp_read_line (K : PySem.W.Frag) : Sp := fun vs H Q E => ∃ (S : List Addr) (na lp lc ld la : Addr) (n : Vbtoad.Net) (r : Vbbtaa.Rest) (x : Vbbtaa.Word) (l : List Vbbtaa.Word), vs = [.ref na, .ref la] ∧ la ∈ S ∧ lp ∈ S ∧ lc ∈ S ∧ ld ∈ S ∧ lc ≠ lp ∧ ld ≠ lp ∧ ld ≠ lc ∧ Used S H ∧
  n.places.length ≤ 1000 ∧ n.cars.length + n.goes.length ≤ 1000 ∧ NetIs K S H na lp lc ld n ∧ RestAt K (· ∉ S) H la r ∧ r.words = x :: l ∧ LineQ K S H na lp lc ld la Q E (Vbtoad.lineIn n r)
theorem sc_read_line : FnScope ["net", "line", "word"] ["net", "line"] d_read_line.scope := ⟨rfl, rfl, rfl, by decide +kernel, rfl, by decide +kernel, by decide +kernel⟩
theorem ok_read_line (T : Fx K mg base) : FnX P w K mg base 7 "read_line" (sp_read_line K) := by
  obtain ⟨fd, F⟩ := F_read_line T
  refine ⟨⟨_, fd, ["net", "line"], F.ok sc_read_line (fun vs H Q E h => ?_) (fun cdv A outer s H vs Q E hr h => ⟨_, pss_cons (ps_set (i := 2) sc_read_line.nd rfl (Or.inl rfl) (pe_mx0 (ok_Line_take T) hr (by decide) (pv 1) (takes_of rfl rfl rfl rfl))) (pss_cons (ps_if (pt_cmpR (op_eqN hr) (pe_fld (pv 2) rfl) (pe_c0 (ok_bytes_of T) hr (by decide) rfl (pa_cons (pe_str) pa_nil)) (nomark _)) (pss_cons (ps_expr (pe_cx (ok_need_room T) hr (by decide) rfl (takes_of rfl rfl rfl rfl) (pa_cons (pv 2) (pa_cons (pe_fld (pv 0) rfl) (pa_cons (C8.pe_gc rfl (i_MOST_PLACES T)) pa_nil))))) (pss_one (ps_expr (pe_bm PySem.F.plainAttrs_list PySem.F.slot_list_append PySem.F.type_list_append mt_append (pe_fld (pv 0) rfl) (pa_cons (pe_cx (ok_read_place T) hr (by decide) rfl (takes_of rfl rfl rfl rfl) (pa_cons (pv 0) (pa_cons (pv 1) pa_nil))) pa_nil))))) (pss_one (ps_if (pt_cmpR (op_eqN hr) (pe_fld (pv 2) rfl) (pe_c0 (ok_bytes_of T) hr (by decide) rfl (pa_cons (pe_str) pa_nil)) (nomark _)) (pss_cons (ps_expr (pe_cx (ok_need_room T) hr (by decide) rfl (takes_of rfl rfl rfl rfl) (pa_cons (pv 2) (pa_cons (pe_fld (pv 0) rfl) (pa_cons (C8.pe_gc rfl (i_MOST_CARS T)) pa_nil))))) (pss_one (ps_expr (pe_bm PySem.F.plainAttrs_list PySem.F.slot_list_append PySem.F.type_list_append mt_append (pe_fld (pv 0) rfl) (pa_cons (pe_cx (ok_read_car T) hr (by decide) rfl (takes_of rfl rfl rfl rfl) (pa_cons (pv 0) (pa_cons (pv 1) pa_nil))) pa_nil))))) (pss_one (ps_if (pt_cmpR (op_eqN hr) (pe_fld (pv 2) rfl) (pe_c0 (ok_bytes_of T) hr (by decide) rfl (pa_cons (pe_str) pa_nil)) (nomark _)) (pss_cons (ps_expr (pe_cx (ok_need_room T) hr (by decide) rfl (takes_of rfl rfl rfl rfl) (pa_cons (pv 2) (pa_cons (pe_fld (pv 0) rfl) (pa_cons (C8.pe_gc rfl (i_MOST_DEPARTURES T)) pa_nil))))) (pss_one (ps_expr (pe_bm PySem.F.plainAttrs_list PySem.F.slot_list_append PySem.F.type_list_append mt_append (pe_fld (pv 0) rfl) (pa_cons (pe_cx (ok_read_departure T) hr (by decide) rfl (takes_of rfl rfl rfl rfl) (pa_cons (pv 0) (pa_cons (pv 1) pa_nil))) pa_nil))))) (pss_one (ps_raiseTextFault rfl (T.TextFault) hr (takes_of rfl rfl rfl rfl) (pa_cons (C8.pe_gc rfl (i_WRONG_WORD T)) (pa_cons (pe_fld (pv 2) rfl) pa_nil))))))))) (pss_one (ps_expr (pe_mx0 (ok_Line_close T) hr (by decide) (pv 1) (takes_of rfl rfl rfl rfl))))), ?_⟩), g_read_line T, F.kp, F.bindsN (fun _ _ _ _ _ _ us hl => match us, hl with | [_, _], _ => rfl)⟩⟩
  · obtain ⟨S, na, lp, lc, ld, la, n, r, x, l, rfl, _⟩ := h
    rfl
  · obtain ⟨S, na, lp, lc, ld, la, n, r, x, l, rfl, m1, m2, m3, m4, n1, n2, n3, hU, z1, z2, hI, hR, hx, k⟩ := h
    rw [lineIn_cons hx] at k
    obtain ⟨ws, j, ⟨dl, lw, xl, l1, _⟩, _⟩ := id hR
    refine ⟨_, rfl, la, dl, _, rfl, l1, rfl, (· ∉ S), la, r, rfl, hR, fun z => absurd (z.symm.trans hx) (by simp), fun x' l' ex b H1 hw hR1 kb => ?_⟩
    obtain ⟨rfl, rfl⟩ := List.cons.inj (hx.symm.trans ex)
    have k1 : Keeps [la] H H1 := keeps_but kb
    have hI1 := hI.line hR m1 k1
    have up : ∀ c ∈ [la], c ∈ [la, lp, lc, ld] := fun c hc => by
      rw [List.mem_singleton.mp hc]
      exact List.mem_cons_self
    obtain ⟨dx, sg, w1, w2, w3⟩ := id hw
    -- behind the thing put in: the line must be at its end
    have close : ∀ (m : Vbtoad.Net) (y : Vbbtaa.Rest) (H3 : Hp), LineQ K S H na lp lc ld la Q E (Vbbtaa.ended 1 m y) → NetIs K S H3 na lp lc ld m → RestAt K (· ∉ S) H3 la y → Keeps [la, lp, lc, ld] H H3 → sp_Line_close K [.ref la] H3 (fun _ H4 => Q .non H4) E := by
      intro m y H3 q i3 r3 k3
      refine ⟨(· ∉ S), la, y, rfl, r3, fun z => ?_, fun x l z => ?_⟩
      · unfold Vbbtaa.ended at q
        rw [z] at q
        refine q H3 i3 (fun c hc ec => ?_) k3
        by_cases hm : c ∈ [la, lp, lc, ld]
        · simp only [List.mem_cons, List.not_mem_nil, or_false] at hm
          rcases hm with rfl | rfl | rfl | rfl
          · exact r3.isLine ec
          · obtain ⟨_, e, _⟩ := i3.ps
            rw [e] at ec
            cases ec
          · obtain ⟨_, e, _⟩ := i3.cs
            rw [e] at ec
            cases ec
          · obtain ⟨_, e, _⟩ := i3.ds
            rw [e] at ec
            cases ec
        · cases e : H c with
          | none => exact hU c hc e
          | some o =>
            rw [k3 c o hm e] at ec
            cases ec
      · unfold Vbbtaa.ended at q
        rw [z] at q
        exact fun H4 d k4 hd => q H4 d (k3.trans (k4.mono (by simp))) hd
    -- bytes of a word that may stand
    refine ⟨_, rfl, b, _, dx, _, _, rfl, w1, c_Word T, n_Word_signs T, rfl, "place", rfl, (by decide), fun p2 H2 s2 _ e2 => ⟨sg, p2, x.text, Vbbtaa.chars "place", rfl, rfl, SqL.of (s2 _ _ w2), SqL.of e2, _, rfl, ?_⟩⟩
    by_cases c1 : x.text = Vbbtaa.chars "place"
    · rw [if_pos c1] at k
      refine ifT (decide_eq_true c1) ?_
      have sa : Same H1 H2 := s2
      have ka : Keeps [la] H H2 := k1.trans (Same.keeps sa)
      have hI2 := hI.line hR m1 ka
      have hR2 := hR1.same sa
      have U2 := used_keeps hU ka hR2.isLine
      obtain ⟨⟨⟨dn, en⟩, ea⟩, ⟨ps, ep, rp⟩, ⟨cs, ec, rc⟩, ⟨ds, ed, rd⟩⟩ := id hI2
      refine ⟨_, rfl, _, rfl, na, _, dn, _, _, rfl, en, c_Net T, n_Net_places T, rfl, (· ∉ S), b, lp, x, ps, Vbtoad.PLACES, rfl, WordAt.keep (S := []) hw sa, SqL.of ep, fun z => ?_, fun z => ?_⟩
      · rw [rp.len] at z
        rw [if_pos z] at k
        exact fun H4 d k4 hd => k H4 d ((ka.mono up).trans (k4.mono (by simp))) hd
      · rw [rp.len] at z
        rw [if_neg (by omega)] at k
        refine ⟨_, rfl, na, _, dn, _, _, rfl, en, c_Net T, n_Net_places T, rfl, .inl ⟨rfl, _, SqL.of ep⟩, _, rfl, _, rfl, S, na, lp, lc, ld, la, n, { r with words := l }, rfl, m1, U2,  hI2, hR2, ?_⟩
        cases q : placeLine n { r with words := l } with
        | error e =>
          rw [q] at k
          exact OutF.back k ka up
        | ok z =>
          obtain ⟨th, y⟩ := z
          rw [q] at k
          intro bb H3 hP hR3 k3
          have hI3 := hI2.line hR2 m1 k3
          have e3 : H3 lp = some (.lst ps) := k3.at_ne (hR2.ne_lst ep) ep
          have kk : ∀ c o, c ≠ lp → H3 c = some o → (upd H3 lp (.lst (ps ++ [.ref bb]))) c = some o := fun c o hc e => by
            rw [upd_ne hc]
            exact e
          have hR4 : RestAt K (· ∉ S) (upd H3 lp (.lst (ps ++ [.ref bb]))) la y := hR3.off (fun c hc z => hc (by rw [z]; exact m2)) ⟨_, e3⟩ kk
          obtain ⟨_, _, ⟨dl4, lw4, xl4, l4, _⟩, _⟩ := id hR4
          refine ⟨lp, ps, .ref bb, rfl, rfl, e3, small1000 (by rw [rp.len]; exact z1), _, rfl, la, dl4, _, rfl, l4, rfl, close _ y _ k (hI3.addPlace m2 n1 n2 e3 hP) hR4 (((ka.trans k3).mono up).trans (keeps_upd (by simp)))⟩
    · rw [if_neg c1] at k
      refine ifF (decide_eq_false c1) ⟨_, rfl, b, _, dx, _, _, rfl, s2 _ _ w1, c_Word T, n_Word_signs T, rfl, "car", rfl, (by decide), fun p3 H3 s3 _ e3 => ⟨sg, p3, x.text, Vbbtaa.chars "car", rfl, rfl, SqL.of (s3 _ _ (s2 _ _ w2)), SqL.of e3, _, rfl, ?_⟩⟩
      by_cases c2 : x.text = Vbbtaa.chars "car"
      · rw [if_pos c2] at k
        refine ifT (decide_eq_true c2) ?_
        have sa : Same H1 H3 := s2.trans s3
        have ka : Keeps [la] H H3 := k1.trans (Same.keeps sa)
        have hI2 := hI.line hR m1 ka
        have hR2 := hR1.same sa
        have U2 := used_keeps hU ka hR2.isLine
        obtain ⟨⟨⟨dn, en⟩, ea⟩, ⟨ps, ep, rp⟩, ⟨cs, ec, rc⟩, ⟨ds, ed, rd⟩⟩ := id hI2
        refine ⟨_, rfl, _, rfl, na, _, dn, _, _, rfl, en, c_Net T, n_Net_cars T, rfl, (· ∉ S), b, lc, x, cs, Vbtoad.CARS, rfl, WordAt.keep (S := []) hw sa, SqL.of ec, fun z => ?_, fun z => ?_⟩
        · rw [rc.len] at z
          rw [if_pos z] at k
          exact fun H4 d k4 hd => k H4 d ((ka.mono up).trans (k4.mono (by simp))) hd
        · rw [rc.len] at z
          rw [if_neg (by omega)] at k
          refine ⟨_, rfl, na, _, dn, _, _, rfl, en, c_Net T, n_Net_cars T, rfl, .inl ⟨rfl, _, SqL.of ec⟩, _, rfl, _, rfl, S, na, lp, lc, ld, la, n, { r with words := l }, rfl, m1, U2, z2, hI2, hR2, ?_⟩
          cases q : carLine n { r with words := l } with
          | error e =>
            rw [q] at k
            exact OutF.back k ka up
          | ok z =>
            obtain ⟨th, y⟩ := z
            rw [q] at k
            intro bb G hP hR3 k3
            have hI3 := hI2.line hR2 m1 k3
            have e3 : G lc = some (.lst cs) := k3.at_ne (hR2.ne_lst ec) ec
            have kk : ∀ c o, c ≠ lc → G c = some o → (upd G lc (.lst (cs ++ [.ref bb]))) c = some o := fun c o hc e => by
              rw [upd_ne hc]
              exact e
            have hR4 : RestAt K (· ∉ S) (upd G lc (.lst (cs ++ [.ref bb]))) la y := hR3.off (fun c hc z => hc (by rw [z]; exact m3)) ⟨_, e3⟩ kk
            obtain ⟨_, _, ⟨dl4, lw4, xl4, l4, _⟩, _⟩ := id hR4
            refine ⟨lc, cs, .ref bb, rfl, rfl, e3, small1000 (by rw [rc.len]; omega), _, rfl, la, dl4, _, rfl, l4, rfl, close _ y _ k (hI3.addCar m3 n1.symm n3 e3 hP) hR4 (((ka.trans k3).mono up).trans (keeps_upd (by simp)))⟩
      · rw [if_neg c2] at k
        refine ifF (decide_eq_false c2) ⟨_, rfl, b, _, dx, _, _, rfl, s3 _ _ (s2 _ _ w1), c_Word T, n_Word_signs T, rfl, "go", rfl, (by decide), fun p4 H4 s4 _ e4 => ⟨sg, p4, x.text, Vbbtaa.chars "go", rfl, rfl, SqL.of (s4 _ _ (s3 _ _ (s2 _ _ w2))), SqL.of e4, _, rfl, ?_⟩⟩
        by_cases c3 : x.text = Vbbtaa.chars "go"
        · rw [if_pos c3] at k
          refine ifT (decide_eq_true c3) ?_
          have sa : Same H1 H4 := (s2.trans s3).trans s4
          have ka : Keeps [la] H H4 := k1.trans (Same.keeps sa)
          have hI2 := hI.line hR m1 ka
          have hR2 := hR1.same sa
          have U2 := used_keeps hU ka hR2.isLine
          obtain ⟨⟨⟨dn, en⟩, ea⟩, ⟨ps, ep, rp⟩, ⟨cs, ec, rc⟩, ⟨ds, ed, rd⟩⟩ := id hI2
          refine ⟨_, rfl, _, rfl, na, _, dn, _, _, rfl, en, c_Net T, n_Net_departures T, rfl, (· ∉ S), b, ld, x, ds, Vbtoad.GOES, rfl, WordAt.keep (S := []) hw sa, SqL.of ed, fun z => ?_, fun z => ?_⟩
          · rw [rd.len] at z
            rw [if_pos z] at k
            exact fun G d k4 hd => k G d ((ka.mono up).trans (k4.mono (by simp))) hd
          · rw [rd.len] at z
            rw [if_neg (by omega)] at k
            refine ⟨_, rfl, na, _, dn, _, _, rfl, en, c_Net T, n_Net_departures T, rfl, .inl ⟨rfl, _, SqL.of ed⟩, _, rfl, _, rfl, S, na, lp, lc, ld, la, n, { r with words := l }, rfl, m1, U2, z2, hI2, hR2, ?_⟩
            cases q : goLine n { r with words := l } with
            | error e =>
              rw [q] at k
              exact OutF.back k ka up
            | ok z =>
              obtain ⟨th, y⟩ := z
              rw [q] at k
              intro bb G hP hR3 k3
              have hI3 := hI2.line hR2 m1 k3
              have e3 : G ld = some (.lst ds) := k3.at_ne (hR2.ne_lst ed) ed
              have kk : ∀ c o, c ≠ ld → G c = some o → (upd G ld (.lst (ds ++ [.ref bb]))) c = some o := fun c o hc e => by
                rw [upd_ne hc]
                exact e
              have hR4 : RestAt K (· ∉ S) (upd G ld (.lst (ds ++ [.ref bb]))) la y := hR3.off (fun c hc z => hc (by rw [z]; exact m4)) ⟨_, e3⟩ kk
              obtain ⟨_, _, ⟨dl4, lw4, xl4, l4, _⟩, _⟩ := id hR4
              refine ⟨ld, ds, .ref bb, rfl, rfl, e3, small1000 (by rw [rd.len]; omega), _, rfl, la, dl4, _, rfl, l4, rfl, close _ y _ k (hI3.addGo m4 n2.symm n3.symm e3 hP) hR4 (((ka.trans k3).mono up).trans (keeps_upd (by simp)))⟩
        · rw [if_neg c3] at k
          refine ifF (decide_eq_false c3) ⟨_, rfl, b, _, dx, _, _, rfl, s4 _ _ (s3 _ _ (s2 _ _ w1)), c_Word T, n_Word_place T, rfl, _, _, rfl, fun D hD => ?_⟩
          exact k _ D (((k1.trans (Same.keeps ((s2.trans s3).trans s4))).trans (Same.keeps (same_new hD))).mono up) upd_same
end
end SJ
end
section
set_option Elab.async false
set_option linter.all false
set_option maxRecDepth 100000
set_option maxHeartbeats 4000000
/-! The defs of reading.py: a text read. -/
namespace SJ
open PySem PySem.Spec PyProof.Rows L2
/-! ## nets stay as texts allow them -/
theorem newIn_ok {ts : List (List Nat)} {r y : Vbbtaa.Rest} {t : List Nat} (h : newIn ts r = .ok (t, y)) : Vbbtaa.isName t = true := by
  unfold newIn at h
  cases hr : r.words with
  | nil =>
    rw [nameIn_nil hr] at h
    cases h
  | cons x l =>
    rw [nameIn_cons hr] at h
    by_cases c : Vbbtaa.isName x.text = true
    · rw [if_pos c] at h
      dsimp only at h
      split at h
      · cases h
      · cases h
        exact c
    · rw [if_neg c] at h
      cases h
theorem placeIn_ok {n : Vbtoad.Net} {r y : Vbbtaa.Rest} {i : Nat} (h : Vbtoad.placeIn n r = .ok (i, y)) : i < n.places.length := by
  unfold Vbtoad.placeIn at h
  cases hn : Vbtoad.nameIn r with
  | error e =>
    rw [hn] at h
    cases h
  | ok z =>
    obtain ⟨t, q⟩ := z
    rw [hn] at h
    dsimp only at h
    cases hf : n.places.findIdx? fun p => p.name == t with
    | none =>
      rw [hf] at h
      cases h
    | some j =>
      rw [hf] at h
      cases h
      exact (List.findIdx?_eq_some_iff_getElem.mp hf).1
theorem numberIn_ok {lo hi m : Nat} {r y : Vbbtaa.Rest} (h : Vbtoad.numberIn lo hi r = .ok (m, y)) : lo ≤ m ∧ m ≤ hi := by
  unfold Vbtoad.numberIn at h
  cases hn : Vbbtaa.next 1 (Vbbtaa.natOf 6) r with
  | error e =>
    rw [hn] at h
    cases h
  | ok z =>
    obtain ⟨t, q⟩ := z
    rw [hn] at h
    dsimp only at h
    split at h
    · rename_i c
      cases h
      exact c
    · cases h
theorem otherIn_ok {n : Vbtoad.Net} {a b : Nat} {r y : Vbbtaa.Rest} (h : otherIn n a r = .ok (b, y)) : b < n.places.length ∧ a ≠ b := by
  unfold otherIn at h
  cases hn : Vbtoad.placeIn n r with
  | error e =>
    rw [hn] at h
    cases h
  | ok z =>
    obtain ⟨t, q⟩ := z
    rw [hn] at h
    dsimp only at h
    split at h
    · cases h
    · rename_i c
      cases h
      exact ⟨placeIn_ok hn, c⟩
theorem laterIn_ok {d m : Nat} {r y : Vbbtaa.Rest} (h : laterIn d r = .ok (m, y)) : d < m ∧ m ≤ Vbtoad.LATE := by
  unfold laterIn at h
  cases hn : Vbtoad.numberIn 0 Vbtoad.LATE r with
  | error e =>
    rw [hn] at h
    cases h
  | ok z =>
    obtain ⟨t, q⟩ := z
    rw [hn] at h
    dsimp only at h
    split at h
    · cases h
    · rename_i c
      cases h
      exact ⟨by omega, (numberIn_ok hn).2⟩
theorem ended_ok {n m : Vbtoad.Net} {y : Vbbtaa.Rest} (h : Vbbtaa.ended 1 n y = .ok m) : m = n := by
  unfold Vbbtaa.ended at h
  split at h
  · cases h
    rfl
  · cases h
theorem WF.addPlace {n : Vbtoad.Net} (W : WF n) {p : Vbtoad.Place} (hl : n.places.length < 8) (h1 : p.handling ≤ 1000) (h2 : Vbbtaa.isName p.name = true) : WF { n with places := n.places ++ [p] } := by
  have ll : (n.places ++ [p]).length = n.places.length + 1 := by rw [List.length_append]; rfl
  refine ⟨?_, W.nc, W.ng, fun x hx => ?_, fun c hc => ?_, fun g hg => ?_, fun x hx => ?_, W.cn, W.gn⟩
  · show (n.places ++ [p]).length ≤ 8
    omega
  · rcases List.mem_append.mp hx with hx | hx
    · exact W.hh x hx
    · rw [List.mem_singleton.mp hx]
      exact h1
  · have := W.car c hc
    show c.from_ < (n.places ++ [p]).length ∧ c.to_ < (n.places ++ [p]).length ∧ _
    exact ⟨by omega, by omega, this.2.2⟩
  · have := W.go g hg
    show g.from_ < (n.places ++ [p]).length ∧ g.to_ < (n.places ++ [p]).length ∧ _
    exact ⟨by omega, by omega, this.2.2⟩
  · rcases List.mem_append.mp hx with hx | hx
    · exact W.pn x hx
    · rw [List.mem_singleton.mp hx]
      exact h2
theorem WF.addCar {n : Vbtoad.Net} (W : WF n) {c : Vbtoad.Car} (hl : n.cars.length < 16) (h1 : c.from_ < n.places.length ∧ c.to_ < n.places.length ∧ c.from_ ≠ c.to_ ∧ 1 ≤ c.long ∧ c.long ≤ 10000) (h2 : Vbbtaa.isName c.name = true) : WF { n with cars := n.cars ++ [c] } := by
  have ll : (n.cars ++ [c]).length = n.cars.length + 1 := by rw [List.length_append]; rfl
  refine ⟨W.np, ?_, W.ng, W.hh, fun x hx => ?_, W.go, W.pn, fun x hx => ?_, W.gn⟩
  · show (n.cars ++ [c]).length ≤ 16
    omega
  · rcases List.mem_append.mp hx with hx | hx
    · exact W.car x hx
    · rw [List.mem_singleton.mp hx]
      exact h1
  · rcases List.mem_append.mp hx with hx | hx
    · exact W.cn x hx
    · rw [List.mem_singleton.mp hx]
      exact h2
theorem WF.addGo {n : Vbtoad.Net} (W : WF n) {g : Vbtoad.Go} (hl : n.goes.length < 30) (h1 : g.from_ < n.places.length ∧ g.to_ < n.places.length ∧ g.from_ ≠ g.to_ ∧ g.dep < g.arr ∧ g.arr ≤ 100000) (h2 : Vbbtaa.isName g.name = true) : WF { n with goes := n.goes ++ [g] } := by
  have ll : (n.goes ++ [g]).length = n.goes.length + 1 := by rw [List.length_append]; rfl
  refine ⟨W.np, W.nc, ?_, W.hh, W.car, fun x hx => ?_, W.pn, W.cn, fun x hx => ?_⟩
  · show (n.goes ++ [g]).length ≤ 30
    omega
  · rcases List.mem_append.mp hx with hx | hx
    · exact W.go x hx
    · rw [List.mem_singleton.mp hx]
      exact h1
  · rcases List.mem_append.mp hx with hx | hx
    · exact W.gn x hx
    · rw [List.mem_singleton.mp hx]
      exact h2
theorem WF.empty : WF Vbtoad.empty := ⟨by decide, by decide, by decide, fun _ h => (by cases h), fun _ h => (by cases h), fun _ h => (by cases h), fun _ h => (by cases h), fun _ h => (by cases h), fun _ h => (by cases h)⟩
theorem WF.line {n m : Vbtoad.Net} (W : WF n) {r : Vbbtaa.Rest} (h : Vbtoad.lineIn n r = .ok m) : WF m := by
  cases hr : r.words with
  | nil =>
    unfold Vbtoad.lineIn at h
    rw [hr] at h
    cases h
    exact W
  | cons x l =>
    rw [lineIn_cons hr] at h
    split at h
    · split at h
      · cases h
      · rename_i _ c
        unfold placeLine at h
        cases h1 : newIn (n.places.map fun p => p.name) { r with words := l } with
        | error e =>
          rw [h1] at h
          cases h
        | ok z =>
          obtain ⟨t, y⟩ := z
          rw [h1] at h
          dsimp only at h
          have c : n.places.length < 8 := Nat.lt_of_not_le c
          by_cases c2 : y.words = []
          · rw [if_pos c2] at h
            rw [ended_ok h]
            exact W.addPlace c (Nat.zero_le _) (newIn_ok h1)
          · rw [if_neg c2] at h
            cases h2 : Vbtoad.numberIn 0 Vbtoad.HANDLING y with
            | error e =>
              rw [h2] at h
              cases h
            | ok z =>
              obtain ⟨v, y2⟩ := z
              rw [h2] at h
              rw [ended_ok h]
              exact W.addPlace c (numberIn_ok h2).2 (newIn_ok h1)
    · split at h
      · split at h
        · cases h
        · rename_i _ _ c
          have c : n.cars.length < 16 := Nat.lt_of_not_le c
          unfold carLine at h
          cases h1 : newIn ((n.cars.map fun c => c.name) ++ n.goes.map fun g => g.name) { r with words := l } with
          | error e =>
            rw [h1] at h
            cases h
          | ok z =>
            obtain ⟨t, y⟩ := z
            rw [h1] at h
            dsimp only at h
            cases h2 : Vbtoad.placeIn n y with
            | error e =>
              rw [h2] at h
              cases h
            | ok z =>
              obtain ⟨a, y⟩ := z
              rw [h2] at h
              dsimp only at h
              cases h3 : otherIn n a y with
              | error e =>
                rw [h3] at h
                cases h
              | ok z =>
                obtain ⟨b, y⟩ := z
                rw [h3] at h
                dsimp only at h
                cases h4 : Vbtoad.numberIn 1 Vbtoad.LONG y with
                | error e =>
                  rw [h4] at h
                  cases h
                | ok z =>
                  obtain ⟨v, y⟩ := z
                  rw [h4] at h
                  rw [ended_ok h]
                  have := otherIn_ok h3
                  have v2 := numberIn_ok h4
                  exact W.addCar c ⟨placeIn_ok h2, this.1, this.2, v2.1, v2.2⟩ (newIn_ok h1)
      · split at h
        · split at h
          · cases h
          · rename_i _ _ _ c
            have c : n.goes.length < 30 := Nat.lt_of_not_le c
            unfold goLine at h
            cases h1 : newIn ((n.cars.map fun c => c.name) ++ n.goes.map fun g => g.name) { r with words := l } with
            | error e =>
              rw [h1] at h
              cases h
            | ok z =>
              obtain ⟨t, y⟩ := z
              rw [h1] at h
              dsimp only at h
              cases h2 : Vbtoad.placeIn n y with
              | error e =>
                rw [h2] at h
                cases h
              | ok z =>
                obtain ⟨a, y⟩ := z
                rw [h2] at h
                dsimp only at h
                cases h3 : Vbtoad.numberIn 0 Vbtoad.LATE y with
                | error e =>
                  rw [h3] at h
                  cases h
                | ok z =>
                  obtain ⟨d, y⟩ := z
                  rw [h3] at h
                  dsimp only at h
                  cases h4 : otherIn n a y with
                  | error e =>
                    rw [h4] at h
                    cases h
                  | ok z =>
                    obtain ⟨b, y⟩ := z
                    rw [h4] at h
                    dsimp only at h
                    cases h5 : laterIn d y with
                    | error e =>
                      rw [h5] at h
                      cases h
                    | ok z =>
                      obtain ⟨v, y⟩ := z
                      rw [h5] at h
                      rw [ended_ok h]
                      have o := otherIn_ok h4
                      have v2 := laterIn_ok h5
                      exact W.addGo c ⟨placeIn_ok h2, o.1, o.2, v2.1, v2.2⟩ (newIn_ok h1)
        · cases h
theorem WF.readAll {t : List Nat} : ∀ (l : List (Nat × Nat)) {n m : Vbtoad.Net}, WF n → SJ.readAll t n l = .ok m → WF m
  | [], n, m, W, h => by
    cases h
    exact W
  | s :: l, n, m, W, h => by
    unfold SJ.readAll at h
    split at h
    · exact WF.readAll l W h
    · split at h
      · cases h
      · rename_i h1
        exact WF.readAll l (W.line h1) h
theorem WF.read {n m : Vbtoad.Net} {t : List Nat} (W : WF n) (h : Vbtoad.readNet n t = .ok m) : WF m := by
  rw [readNet_is] at h
  exact WF.readAll _ W h
theorem WF.without {n : Vbtoad.Net} (W : WF n) (i : Nat) : WF { n with goes := n.goes.eraseIdx i } :=
  ⟨W.np, W.nc, Nat.le_trans (List.length_eraseIdx_le _ _) W.ng, W.hh, W.car, fun g hg => W.go g (List.mem_of_mem_eraseIdx hg), W.pn, W.cn, fun g hg => W.gn g (List.mem_of_mem_eraseIdx hg)⟩
theorem WF.shift {n : Vbtoad.Net} (W : WF n) {i : Nat} {g : Vbtoad.Go} {m : Int} (hg : n.goes[i]? = some g) (ho : ¬ Outside g m) : WF { n with goes := n.goes.set i (shiftGo g m) } := by
  have mg := List.mem_of_getElem? hg
  have G := W.go g mg
  refine ⟨W.np, W.nc, by show (n.goes.set i _).length ≤ 30; rw [List.length_set]; exact W.ng, W.hh, W.car, fun x hx => ?_, W.pn, W.cn, fun x hx => ?_⟩
  · rcases List.mem_or_eq_of_mem_set hx with hx | rfl
    · exact W.go x hx
    · unfold Outside at ho
      refine ⟨G.1, G.2.1, G.2.2.1, ?_, ?_⟩
      · show ((g.dep : Int) + m).toNat < ((g.arr : Int) + m).toNat
        omega
      · show ((g.arr : Int) + m).toNat ≤ 100000
        omega
  · rcases List.mem_or_eq_of_mem_set hx with hx | rfl
    · exact W.gn x hx
    · exact W.gn g mg
section
variable {P : Program} {w : World} {K : PySem.W.Frag} {mg : Str → Option Value} {base : Heap}
/-! ## a text -/
theorem readAll_cons (t : List Nat) (n : Vbtoad.Net) (s : Nat × Nat) (l : List (Nat × Nat)) : readAll t n (s :: l) = if (restM t s).words.isEmpty = true then readAll t n l else match Vbtoad.lineIn n (restM t s) with
    | .error e => .error e
    | .ok m => readAll t m l := rfl
theorem RestAt.to {N N' : Addr → Prop} {H : Hp} {a : Addr} {r : Vbbtaa.Rest} (h : RestAt K N H a r) (k : ∀ c ys, H c = some (.lst ys) → N c → N' c) : RestAt K N' H a r := by
  obtain ⟨ws, m, ⟨dx, lw, xs, e1, e2, eN, e3, e4⟩, hk, ew⟩ := h
  refine ⟨ws, m, ⟨dx, lw, xs, e1, e2, k _ _ e2 eN, e3, fun i w0 hw => ?_⟩, hk, ew⟩
  obtain ⟨b, eb, dxb, sg, f1, f2, f3⟩ := e4 i w0 hw
  exact ⟨b, eb, dxb, sg, f1, f2, k _ _ f2 f3⟩
/-- lists and another line change: the line stays -/
theorem RestAt.other {S U : List Addr} {H H1 : Hp} {a : Addr} {r : Vbbtaa.Rest} (h : RestAt K (· ∉ S) H a r) (k : Keeps U H H1) (i : ∀ c ∈ U, c ∈ S) (ha : a ∉ U) (hu : ∀ c ∈ U, (∃ ys, H c = some (.lst ys)) ∨ ∃ r, RestAt K (· ∉ S) H c r) : RestAt K (· ∉ S) H1 a r := by
  obtain ⟨ws, m, ⟨dx, lw, xs, e1, e2, eN, e3, e4⟩, hk, ew⟩ := h
  refine ⟨ws, m, ⟨dx, lw, xs, k _ _ ha e1, k _ _ (fun z => eN (i _ z)) e2, eN, e3, fun j w0 hw => ?_⟩, hk, ew⟩
  obtain ⟨b, eb, dxb, sg, f1, f2, f3⟩ := e4 j w0 hw
  refine ⟨b, eb, dxb, sg, k _ _ (fun z => ?_) f1, k _ _ (fun z => f3 (i _ z)) f2, f3⟩
  rcases hu b z with ⟨ys, e⟩ | ⟨r2, ⟨_, _, ⟨_, _, _, g1, _⟩, _⟩⟩
  · rw [f1] at e
    cases e
  · rw [f1] at g1
    have := congrArg List.length (HO.ins.inj (Option.some.inj g1)).2.2
    cases this
def refsOf (xs : List V) : List Addr := xs.filterMap fun
  | .ref a => some a
  | _ => none
theorem mem_refsOf {xs : List V} {a : Addr} : a ∈ refsOf xs ↔ V.ref a ∈ xs := by
  unfold refsOf
  rw [List.mem_filterMap]
  constructor
  · rintro ⟨v, hv, e⟩
    cases v with
    | ref b =>
      obtain rfl : b = a := Option.some.inj e
      exact hv
    | _ => cases e
  · exact fun h => ⟨_, h, rfl⟩
/-- a text is read behind a net -/
def ReadQ (K : PySem.W.Frag) (S : List Addr) (H : Hp) (Q : VK) (E : XK) : Except Vbbtaa.Fault Vbtoad.Net → Prop
  | .error e => OutF K [] H E e
  | .ok m => ∀ b H1, Same H H1 → NetAt K S H1 b m → Q (.ref b) H1
def sp_read_behind (K : PySem.W.Frag) : Sp := fun vs H Q E => ∃ (S : List Addr) (a ta : Addr) (n : Vbtoad.Net) (t : List Nat), vs = [.ref a, .ref ta] ∧ Used S H ∧ NetAt K S H a n ∧ WF n ∧ SqL K H ta (nv t) ∧ t.length ≤ 4000 ∧ ReadQ K S H Q E (Vbtoad.readNet n t)
theorem sc_read_behind : FnScope ["net", "text", "other", "line"] ["net", "text"] d_read_behind.scope := ⟨rfl, rfl, rfl, by decide +kernel, rfl, by decide +kernel, by decide +kernel⟩
theorem ok_read_behind (T : Fx K mg base) : FnX P w K mg base 8 "read_behind" (sp_read_behind K) := by
  obtain ⟨fd, F⟩ := F_read_behind T
  refine ⟨⟨_, fd, ["net", "text"], F.ok sc_read_behind (fun vs H Q E h => ?_) (fun cdv A outer s H vs Q E hr h => ⟨_, pss_cons (ps_set (i := 2) sc_read_behind.nd rfl (Or.inl rfl) (pe_c0 (ok_copy_of_net T) hr (by decide) rfl (pa_cons (pv 0) pa_nil))) (pss_cons (ps_for (passes_of rfl) rfl (pi_list (pe_c0 (ok_lines_of T) hr (by decide) rfl (pa_cons (pv 1) pa_nil))) (pg_name (i := 3) sc_read_behind.nd rfl (Or.inl rfl)) (pss_one (ps_if (pt_val (pe_m00 (ok_Line_has_more T) hr (by decide) (pv 3))) (pss_one (ps_expr (pe_cx (ok_read_line T) hr (by decide) rfl (takes_of rfl rfl rfl rfl) (pa_cons (pv 2) (pa_cons (pv 3) pa_nil))))) (pss_nil)))) (pss_one (ps_ret (pv 2)))), ?_⟩), g_read_behind T, F.kp, F.bindsN (fun _ _ _ _ _ _ us hl => match us, hl with | [_, _], _ => rfl)⟩⟩
  · obtain ⟨S, a, ta, n, t, rfl, _⟩ := h
    rfl
  · obtain ⟨S, a, ta, n, t, rfl, hU, hA, hW, hT, hlen, k⟩ := h
    rw [readNet_is] at k
    refine ⟨_, rfl, S, a, n, rfl, hU, hA, fun b lp lc ld H1 s1 nb np nc nd b1 b2 b3 c1 c2 c3 hI => ?_⟩
    refine ⟨_, rfl, ta, t, rfl, s1.seq hT, hlen, fun p H2 xs s2 np2 hp2 hL => ?_⟩
    -- what may change: the lines, the lists
    let S2 : List Addr := refsOf xs ++ ([lp, lc, ld] ++ S)
    have hlp : H1 lp ≠ none := by
      obtain ⟨_, e, _⟩ := hI.ps
      rw [e]
      exact fun z => by cases z
    have hlc : H1 lc ≠ none := by
      obtain ⟨_, e, _⟩ := hI.cs
      rw [e]
      exact fun z => by cases z
    have hld : H1 ld ≠ none := by
      obtain ⟨_, e, _⟩ := hI.ds
      rw [e]
      exact fun z => by cases z
    have U1 : Used ([lp, lc, ld] ++ S) H1 := fun c hm => by
      rcases List.mem_append.mp hm with hm | hm
      · simp only [List.mem_cons, List.not_mem_nil, or_false] at hm
        rcases hm with rfl | rfl | rfl <;> assumption
      · exact (hU.same s1) c hm
    have fr : ∀ c ∈ refsOf xs, H1 c = none := fun c hc => (hL.own c (mem_refsOf.mp hc)).1
    have isL : ∀ c ∈ refsOf xs, ∃ r, RestAt K (fun c => H1 c = none ∧ c ≠ p) H2 c r := fun c hc => by
      obtain ⟨j, hj, ej⟩ := List.mem_iff_getElem.mp (mem_refsOf.mp hc)
      have hj2 : j < ((linesM t).map (restM t)).length := by rw [← hL.len]; exact hj
      obtain ⟨d, ed, hd⟩ := hL.at_ j _ (List.getElem?_eq_getElem hj2)
      rw [List.getElem?_eq_getElem hj, ej] at ed
      obtain rfl : c = d := V.ref.inj (Option.some.inj ed)
      exact ⟨_, hd⟩
    have U2 : Used S2 H2 := fun c hm => by
      rcases List.mem_append.mp hm with hm | hm
      · obtain ⟨r, hr⟩ := isL c hm
        exact hr.isLine
      · exact (U1.same s2) c hm
    have hI2 : NetIs K S2 H2 b lp lc ld n := by
      obtain ⟨⟨⟨dn, en⟩, ea⟩, ⟨ps, ep, rp⟩, ⟨cs, ec, rc⟩, ⟨ds, ed, rd⟩⟩ := hI
      exact ⟨⟨⟨dn, s2 _ _ en⟩, notIn_more en fr ea⟩, ⟨ps, s2 _ _ ep, rp.mono fun _ _ z => (z.more fr).keep (Same.keeps s2)⟩, ⟨cs, s2 _ _ ec, rc.mono fun _ _ z => (z.more fr).keep (Same.keeps s2)⟩, ⟨ds, s2 _ _ ed, rd.mono fun _ _ z => (z.more fr).keep (Same.keeps s2)⟩⟩
    have toS : ∀ c r, RestAt K (fun c => H1 c = none ∧ c ≠ p) H2 c r → RestAt K (· ∉ S2) H2 c r := fun c r h => h.to fun d ys e1 e2 hm => by
      rcases List.mem_append.mp hm with hm | hm
      · obtain ⟨r2, h2⟩ := isL d hm
        exact h2.ne_lst e1 rfl
      · exact U1 d hm e2.1
    have mp : lp ∈ S2 := List.mem_append_right _ (by simp)
    have mc : lc ∈ S2 := List.mem_append_right _ (by simp)
    have md : ld ∈ S2 := List.mem_append_right _ (by simp)
    let Iv : Nat → L2.St → Hp → Prop := fun i σ H3 => ∃ (v : Option V) (m : Vbtoad.Net), σ = [some (.ref a), some (.ref ta), some (.ref b), v] ∧ Same H H3 ∧ NetIs K S2 H3 b lp lc ld m ∧ WF m ∧ Used S2 H3 ∧ H3 p = some (.lst xs) ∧
      (∀ j r, i ≤ j → ((linesM t).map (restM t))[j]? = some r → ∃ la, xs[j]? = some (.ref la) ∧ RestAt K (· ∉ S2) H3 la r) ∧ readAll t n (linesM t) = readAll t m ((linesM t).drop i)
    refine ⟨p, rfl, ⟨_, SqL.of hp2⟩, for_it (walk_list (xs := xs)) Iv ⟨none, n, rfl, s1.trans s2, hI2, hW, U2, hp2, fun j r _ hr => ?_, by rw [List.drop_zero]⟩ (fun i σ H3 _ ⟨_, _, _, _, _, _, _, e, _⟩ => SqL.of e) ?_ ?_⟩
    · obtain ⟨c, ec, hc⟩ := hL.at_ j r hr
      exact ⟨c, ec, toS c r hc⟩
    · rintro i x σ H3 H4 hi ⟨v, m, rfl, s3, hI3, hW3, U3, hp3, hl3, hall⟩ ⟨rfl, hx⟩
      have hi2 : i < (linesM t).length := by
        have := hL.len
        rw [List.length_map] at this
        omega
      have hdr : (linesM t).drop i = (linesM t)[i] :: (linesM t).drop (i + 1) := List.drop_eq_getElem_cons hi2
      have hri : ((linesM t).map (restM t))[i]? = some (restM t (linesM t)[i]) := by rw [List.getElem?_map, List.getElem?_eq_getElem hi2]; rfl
      obtain ⟨la, hla, hR⟩ := hl3 i _ (Nat.le_refl _) hri
      rw [hx] at hla
      obtain rfl : x = .ref la := Option.some.inj hla
      have mla : la ∈ refsOf xs := mem_refsOf.mpr (List.mem_of_getElem? hx)
      have ml : la ∈ S2 := List.mem_append_left _ mla
      rw [hdr, readAll_cons] at hall
      generalize hr : restM t (linesM t)[i] = r at hall hR
      obtain ⟨ws, q, hLine, hq, ew⟩ := id hR
      obtain ⟨dl, lw, xl, l1, _⟩ := id hLine
      have later : ∀ H5, Keeps [la, lp, lc, ld] H4 H5 → ∀ j r, i + 1 ≤ j → ((linesM t).map (restM t))[j]? = some r → ∃ lb, xs[j]? = some (.ref lb) ∧ RestAt K (· ∉ S2) H5 lb r := by
        intro H5 k5 j r2 hj hr2
        obtain ⟨lb, elb, hb⟩ := hl3 j r2 (by omega) hr2
        refine ⟨lb, elb, hb.other k5 (fun c hc => ?_) (fun hm => ?_) fun c hc => ?_⟩
        · simp only [List.mem_cons, List.not_mem_nil, or_false] at hc
          rcases hc with rfl | rfl | rfl | rfl
          · exact ml
          · exact mp
          · exact mc
          · exact md
        · simp only [List.mem_cons, List.not_mem_nil, or_false] at hm
          rcases hm with rfl | rfl | rfl | rfl
          · have := (List.getElem?_inj hi hL.nd).mp (hx.trans elb.symm)
            omega
          · obtain ⟨_, e, _⟩ := hI3.ps
            exact hb.ne_lst e rfl
          · obtain ⟨_, e, _⟩ := hI3.cs
            exact hb.ne_lst e rfl
          · obtain ⟨_, e, _⟩ := hI3.ds
            exact hb.ne_lst e rfl
        · simp only [List.mem_cons, List.not_mem_nil, or_false] at hc
          rcases hc with rfl | rfl | rfl | rfl
          · exact .inr ⟨_, hR⟩
          · exact .inl (let ⟨_, e, _⟩ := hI3.ps; ⟨_, e⟩)
          · exact .inl (let ⟨_, e, _⟩ := hI3.cs; ⟨_, e⟩)
          · exact .inl (let ⟨_, e, _⟩ := hI3.ds; ⟨_, e⟩)
      have old : ∀ H5, Keeps [la, lp, lc, ld] H4 H5 → Same H H5 := fun H5 k5 c o e => by
        refine k5 c o (fun hm => ?_) (s3 _ _ e)
        simp only [List.mem_cons, List.not_mem_nil, or_false] at hm
        rcases hm with rfl | rfl | rfl | rfl
        · rw [s1.free (fr _ mla)] at e
          cases e
        · rw [np] at e
          cases e
        · rw [nc] at e
          cases e
        · rw [nd] at e
          cases e
      refine ⟨_, rfl, la, dl, _, rfl, l1, rfl, (· ∉ S2), la, ws, r.halt_, q, rfl, hLine, _, rfl, ?_⟩
      by_cases cq : q < ws.length
      · have hw : r.words = ws[q] :: ws.drop (q + 1) := by rw [ew, List.drop_eq_getElem_cons cq]
        rw [if_neg (by rw [hw]; exact Bool.false_ne_true)] at hall
        refine ifT (decide_eq_true cq) ⟨_, rfl, _, rfl, S2, b, lp, lc, ld, la, m, r, _, _, rfl, ml, mp, mc, md, c1, c2, c3, U3, by have := hW3.np; omega, by have := hW3.nc; have := hW3.ng; omega, hI3, hR, hw, ?_⟩
        cases z : Vbtoad.lineIn m r with
        | error e =>
          rw [z] at hall
          rw [hall] at k
          exact fun H5 d k5 hd => k H5 d (Same.keeps (old H5 k5)) hd
        | ok m2 =>
          rw [z] at hall
          intro H5 hI5 hU5 k5
          refine ⟨_, m2, rfl, old H5 k5, hI5, hW3.line z, hU5, k5 _ _ (fun hm => ?_) hp3, later H5 k5, hall⟩
          simp only [List.mem_cons, List.not_mem_nil, or_false] at hm
          rcases hm with rfl | rfl | rfl | rfl
          · exact (hL.own _ (mem_refsOf.mp mla)).2 rfl
          · exact hlp np2
          · exact hlc np2
          · exact hld np2
      · have hw : r.words = [] := by rw [ew]; exact List.drop_eq_nil_of_le (by omega)
        rw [if_pos (by rw [hw]; rfl)] at hall
        exact ifF (decide_eq_false cq) ⟨_, m, rfl, s3, hI3, hW3, U3, hp3, later H4 (Keeps.refl _ _), hall⟩
    · rintro σ H3 ⟨v, m, rfl, s3, hI3, hW3, U3, hp3, hl3, hall⟩
      have e0 : (linesM t).drop xs.length = [] := List.drop_eq_nil_of_le (by have := hL.len; rw [List.length_map] at this; omega)
      rw [e0] at hall
      have hall : readAll t n (linesM t) = .ok m := hall
      rw [hall] at k
      have less : ∀ c, c ∉ S2 → c ∉ S := fun c hc hm => hc (List.mem_append_right _ (List.mem_append_right _ hm))
      exact ⟨_, rfl, k b H3 s3 ⟨lp, lc, ld, hI3.less less, hU.new np, hU.new nc, hU.new nd⟩⟩
end
end SJ
end
section
set_option Elab.async false
set_option linter.all false
set_option maxRecDepth 100000
set_option maxHeartbeats 4000000
/-! The defs of reading.py: a net written. -/
namespace SJ
open PySem PySem.Spec PyProof.Rows L2
section
variable {P : Program} {w : World} {K : PySem.W.Frag} {mg : Str → Option Value} {base : Heap}
def TextAt (H : Hp) (b : Addr) (t : List Nat) : Prop := H b = some (.lst (nv t))
theorem nv_append (s t : List Nat) : nv (s ++ t) = nv s ++ nv t := List.map_append
theorem lineM_snoc (ws : List (List Nat)) (x : List Nat) : lineM (ws ++ [x]) = (if 0 < (lineM ws).length then lineM ws ++ [32] else lineM ws) ++ x := by
  unfold lineM
  rw [List.foldl_append]
  rfl
def sp_written_line (K : PySem.W.Frag) : Sp := fun vs H Q _ => ∃ (a : Addr) (xs : List V) (ws : List (List Nat)), vs = [.ref a] ∧ SqL K H a xs ∧ Each (TextAt H) xs ws ∧ ws.length ≤ 10 ∧ (∀ t ∈ ws, t.length ≤ 1000) ∧ ∀ p H1, Same H H1 → H p = none → H1 p = some (.lst (nv (lineM ws ++ [10]))) → Q (.ref p) H1
theorem sc_written_line : FnScope ["words", "line", "word"] ["words"] d_written_line.scope := ⟨rfl, rfl, rfl, by decide +kernel, rfl, by decide +kernel, by decide +kernel⟩
theorem ok_written_line (T : Fx K mg base) : Fn0 P w K mg base 2 "written_line" (sp_written_line K) := by
  obtain ⟨fd, F⟩ := F_written_line T
  refine ⟨⟨_, fd, ["words"], F.ok sc_written_line (fun vs H Q E h => ?_) (fun cdv A outer s H vs Q E hr h => ⟨_, PSs.nox (pss_cons (ps_set (i := 1) sc_written_line.nd rfl (Or.inl rfl) (pe_lst (pa_nil))) (pss_cons (ps_for PassesOwn.never rfl (pi_list (pv 0)) (pg_name (i := 2) sc_written_line.nd rfl (Or.inl rfl)) (pss_cons (ps_if (pt_cmpR op_gt (pe_callB call_len_seq (by rfl) (b_len T) (by decide +kernel) (pa_cons (pv 1) pa_nil)) (pe_int) (nomark _)) (pss_one (ps_expr (pe_bm PySem.F.plainAttrs_list PySem.F.slot_list_extend PySem.F.type_list_extend mt_extend (pv 1) (pa_cons (pe_c0 (ok_bytes_of T) hr (by decide) rfl (pa_cons (pe_str) pa_nil)) pa_nil)))) (pss_nil)) (pss_one (ps_expr (pe_bm PySem.F.plainAttrs_list PySem.F.slot_list_extend PySem.F.type_list_extend mt_extend (pv 1) (pa_cons (pv 2) pa_nil)))))) (pss_one (ps_ret (pe_op op_cat (pv 1) (pe_lst (pa_cons (C8.pe_gc rfl (i_NEW_LINE T)) pa_nil))))))), ?_⟩), g_written_line T, F.kp, F.bindsN (fun _ _ _ _ _ _ us hl => match us, hl with | [_], _ => rfl)⟩⟩
  · obtain ⟨a, xs, ws, rfl, _⟩ := h
    rfl
  · obtain ⟨a, xs, ws, rfl, hA, hE, hlen, hw, q⟩ := h
    refine ⟨Nat.zero_le _, fun l hl => ?_⟩
    let Iv : Nat → L2.St → Hp → Prop := fun i σ H1 => ∃ v, σ = [some (.ref a), some (.ref l), v] ∧ Same H H1 ∧ H1 l = some (.lst (nv (lineM (ws.take i)))) ∧ (lineM (ws.take i)).length ≤ 1001 * i
    refine ⟨_, rfl, a, rfl, ⟨_, (same_new hl).seq hA⟩, for_it (walk_list (xs := xs)) Iv ⟨none, rfl, same_new hl, upd_same, Nat.le_refl _⟩ (fun i σ H1 _ ⟨_, _, s1, _⟩ => s1.seq hA) ?_ ?_⟩
    · rintro i x σ H1 H2 hi ⟨v, rfl, s1, h1, z1⟩ ⟨rfl, hx⟩
      obtain ⟨b, t, rfl, ht, hb⟩ := hE.get hx
      have hi2 : i < ws.length := by rw [← hE.len]; exact hi
      have htk : ws.take (i + 1) = ws.take i ++ [t] := by
        rw [List.take_add_one, ht]
        rfl
      have ht1 := hw t (List.mem_of_getElem? ht)
      have bl : b ≠ l := ne_of_none hb hl
      -- the word put behind
      have put : ∀ (y : List Nat) (G : Hp), y = (if 0 < (lineM (ws.take i)).length then lineM (ws.take i) ++ [32] else lineM (ws.take i)) → Same H G → G l = some (.lst (nv y)) → ∃ l' b' xs' zs', V.ref l = .ref l' ∧ [V.ref b] = [.ref b'] ∧ G l' = some (.lst xs') ∧ G b' = some (.lst zs') ∧ xs'.length + zs'.length ≤ sizeLine ∧ Iv (i + 1) [some (.ref a), some (.ref l), some (.ref b)] (upd G l' (.lst (xs' ++ zs'))) := by
        intro y G hy sG hG
        have ly : y.length ≤ 1001 * i + 1 := by
          rw [hy]
          split
          · rw [List.length_append]
            show (lineM (ws.take i)).length + 1 ≤ _
            omega
          · omega
        refine ⟨l, b, nv y, nv t, rfl, rfl, hG, sG _ _ hb, by rw [nv_len, nv_len, sizeLine_eq]; omega, some (.ref b), rfl, same_upd hl sG, ?_, ?_⟩
        · rw [upd_same, htk, lineM_snoc, ← hy, nv_append]
        · rw [htk, lineM_snoc, ← hy, List.length_append]
          omega
      refine ⟨_, rfl, l, _, rfl, .inl (SqL.of h1), _, _, rfl, rfl, _, rfl, ?_⟩
      by_cases c : (0 : Int) < ((nv (lineM (ws.take i))).length : Int)
      · rw [nv_len] at c
        refine ifT (decide_eq_true (by rw [nv_len]; exact c)) ⟨_, rfl, .inl ⟨rfl, _, SqL.of h1⟩, " ", rfl, (by decide), fun g H3 s3 ng hg => ⟨l, g, _, _, rfl, rfl, s3 _ _ h1, hg, by rw [nv_len, sizeLine_eq]; show _ + 1 ≤ _; omega, ?_⟩⟩
        refine ⟨_, rfl, .inl ⟨rfl, _, SqL.of upd_same⟩, _, rfl, ?_⟩
        refine put _ _ (by rw [if_pos (by omega)]) (same_upd hl (s1.trans s3)) ?_
        rw [upd_same, nv_append]
        rfl
      · rw [nv_len] at c
        refine ifF (decide_eq_false (by rw [nv_len]; exact c)) ⟨_, rfl, .inl ⟨rfl, _, SqL.of h1⟩, _, rfl, ?_⟩
        exact put _ _ (by rw [if_neg (by omega)]) s1 h1
    · rintro σ H1 ⟨v, rfl, s1, h1, z1⟩
      have ew : ws.take xs.length = ws := List.take_of_length_le (by rw [hE.len]; exact Nat.le_refl _)
      rw [ew] at h1 z1
      have hl2 : xs.length ≤ 10 := by rw [hE.len]; exact hlen
      refine ⟨_, rfl, (by show 1 ≤ sizeLine; rw [sizeLine_eq]; omega), fun g hg => ⟨l, g, _, _, rfl, rfl, by rw [upd_ne (ne_of_none h1 hg)]; exact h1, upd_same, by rw [nv_len, sizeLine_eq]; show _ + 1 ≤ _; omega, fun p hp => ?_⟩⟩
      have s2 : Same H1 (upd H1 g (.lst [.int 10])) := same_new hg
      refine q p _ ((s1.trans s2).trans (same_new hp)) ((s1.trans s2).free hp) ?_
      rw [upd_same, nv_append]
      rfl
theorem decimal_len {n : Nat} (h : n < 10000000) : (Vbbtaa.decimal n).length ≤ 7 := by
  unfold Vbbtaa.decimal Vbbtaa.chars
  rw [List.length_map]
  show (Nat.repr n).toList.length ≤ 7
  rw [Nat.repr_eq_ofList_toDigits, String.toList_ofList]
  exact (Nat.length_toDigits_le_iff (by decide) (by decide)).mpr h
def sp_written_number : Sp := fun vs H Q _ => ∃ n : Nat, vs = [.int n] ∧ n < 10000000 ∧ ∀ p H1, Same H H1 → H p = none → TextAt H1 p (Vbbtaa.decimal n) → Q (.ref p) H1
theorem sc_written_number : FnScope ["number"] ["number"] d_written_number.scope := ⟨rfl, rfl, rfl, by decide +kernel, rfl, by decide +kernel, by decide +kernel⟩
theorem ok_written_number (T : Fx K mg base) : Fn0 P w K mg base 2 "written_number" sp_written_number := by
  obtain ⟨fd, F⟩ := F_written_number T
  refine ⟨⟨_, fd, ["number"], F.ok sc_written_number (fun vs H Q E h => ?_) (fun cdv A outer s H vs Q E hr h => ⟨_, PSs.nox (pss_one (ps_ret (pe_c0 (ok_bytes_of T) hr (by decide) rfl (pa_cons (pe_callTy call_str_int (by rfl) (b_str T) (by decide +kernel) (pa_cons (pv 0) pa_nil)) pa_nil)))), ?_⟩), g_written_number T, F.kp, F.bindsN (fun _ _ _ _ _ _ us hl => match us, hl with | [_], _ => rfl)⟩⟩
  · obtain ⟨n, rfl, _⟩ := h
    rfl
  · obtain ⟨n, rfl, hn, q⟩ := h
    have hs : (Str.ofString (toString (n : Int))).cps.toList = Vbbtaa.decimal n := by
      rw [Str.ofString_eq_toList]
      rfl
    have hz : (Str.ofString (toString (n : Int))).cps.size ≤ 1000 := by
      rw [← Array.length_toList, hs]
      have := decimal_len hn
      omega
    refine ⟨_, rfl, _, rfl, ?_, _, rfl, hz, fun p H1 s1 hp h1 => q p H1 s1 hp ?_⟩
    · have : (n : Int).natAbs = n := rfl
      rw [this]
      by_cases z : n = 0
      · rw [z]
        decide
      · exact (Nat.log2_lt z).mpr (Nat.lt_of_lt_of_le hn (Nat.le_trans (by decide : 10000000 ≤ 2 ^ 30) (Nat.pow_le_pow_right (by decide) (by decide))))
    · rw [hs] at h1
      exact h1
end
end SJ
end
section
set_option Elab.async false
set_option linter.all false
set_option maxRecDepth 100000
set_option maxHeartbeats 4000000
/-! The defs of reading.py: a net written, thing by thing. -/
namespace SJ
open PySem PySem.Spec PyProof.Rows L2
section
variable {P : Program} {w : World} {K : PySem.W.Frag} {mg : Str → Option Value} {base : Heap}
theorem name_len {t : List Nat} (h : Vbbtaa.isName t = true) : t.length ≤ 12 ∧ t ≠ [] := by
  rw [isName_iff] at h
  split at h
  · cases h
  · rename_i c
    refine ⟨?_, ?_⟩
    · apply Nat.le_of_not_lt
      exact fun z => c (.inr (.inl z))
    · rintro rfl
      exact c (.inl rfl)
theorem Each.two {α : Type} {R : Addr → α → Prop} {a b : Addr} {x y : α} (h1 : R a x) (h2 : R b y) : Each R [.ref a, .ref b] [x, y] := (Each.nil.snoc h1).snoc h2
/-- a text that is promised new -/
def NewText (H : Hp) (Q : VK) (t : List Nat) : Prop := ∀ p H1, Same H H1 → H p = none → TextAt H1 p t → Q (.ref p) H1
def placeWords (p : Vbtoad.Place) : List (List Nat) := [Vbbtaa.chars "place", p.name] ++ (if p.handling = 0 then [] else [Vbbtaa.decimal p.handling])
def sp_written_place (K : PySem.W.Frag) : Sp := fun vs H Q _ => ∃ (S : List Addr) (b : Addr) (p : Vbtoad.Place), vs = [.ref b] ∧ PlaceAt K S H b p ∧ p.name.length ≤ 12 ∧ p.handling ≤ 1000 ∧ NewText H Q (lineM (placeWords p) ++ [10])
theorem sc_written_place : FnScope ["place", "words"] ["place"] d_written_place.scope := ⟨rfl, rfl, rfl, by decide +kernel, rfl, by decide +kernel, by decide +kernel⟩
theorem ok_written_place (T : Fx K mg base) : Fn0 P w K mg base 3 "written_place" (sp_written_place K) := by
  obtain ⟨fd, F⟩ := F_written_place T
  refine ⟨⟨_, fd, ["place"], F.ok sc_written_place (fun vs H Q E h => ?_) (fun cdv A outer s H vs Q E hr h => ⟨_, PSs.nox (pss_cons (ps_set (i := 1) sc_written_place.nd rfl (Or.inl rfl) (pe_lst (pa_cons (pe_c0 (ok_bytes_of T) hr (by decide) rfl (pa_cons (pe_str) pa_nil)) (pa_cons (pe_fld (pv 0) rfl) pa_nil)))) (pss_cons (ps_if (pt_cmpR op_ne (pe_fld (pv 0) rfl) (pe_int) (nomark _)) (pss_one (ps_expr (pe_bm PySem.F.plainAttrs_list PySem.F.slot_list_append PySem.F.type_list_append mt_append (pv 1) (pa_cons (pe_c0 (ok_written_number T) hr (by decide) rfl (pa_cons (pe_fld (pv 0) rfl) pa_nil)) pa_nil)))) (pss_nil)) (pss_one (ps_ret (pe_c0 (ok_written_line T) hr (by decide) rfl (pa_cons (pv 1) pa_nil)))))), ?_⟩), g_written_place T, F.kp, F.bindsN (fun _ _ _ _ _ _ us hl => match us, hl with | [_], _ => rfl)⟩⟩
  · obtain ⟨S, b, p, rfl, _⟩ := h
    rfl
  · obtain ⟨S, b, p, rfl, ⟨dx, sg, e1, e2, e3, e4⟩, hl, hh, q⟩ := h
    refine ⟨"place", rfl, (by decide), fun g H1 s1 ng hg => ⟨_, rfl, b, _, dx, _, _, rfl, s1 _ _ e1, c_Place T, n_Place_name T, rfl, (by show 2 ≤ sizeLine; rw [sizeLine_eq]; omega), fun l hl1 => ?_⟩⟩
    have s2 : Same H1 (upd H1 l (.lst [.ref g, .ref sg])) := same_new hl1
    have hg : TextAt H1 g (Vbbtaa.chars "place") := hg
    refine ⟨_, rfl, b, _, dx, _, _, rfl, s2 _ _ (s1 _ _ e1), c_Place T, n_Place_handling T, rfl, rfl, _, rfl, ?_⟩
    have lens : ∀ t ∈ placeWords p, t.length ≤ 1000 := by
      intro t ht
      unfold placeWords at ht
      rcases List.mem_append.mp ht with ht | ht
      · simp only [List.mem_cons, List.not_mem_nil, or_false] at ht
        rcases ht with rfl | rfl
        · decide
        · omega
      · split at ht
        · cases ht
        · rw [List.mem_singleton.mp ht]
          have := decimal_len (show p.handling < 10000000 by omega)
          omega
    by_cases c : V.int (p.handling : Int) = V.int 0
    · have c0 : p.handling = 0 := by
        have := V.int.inj c
        omega
      refine ifF (by rw [decide_eq_true c]; rfl) ⟨_, rfl, l, _, placeWords p, rfl, SqL.of upd_same, ?_, ?_, lens, fun p2 H2 s3 np hp => q p2 H2 ((s1.trans s2).trans s3) ((s1.trans s2).free np) hp⟩
      · unfold placeWords
        rw [if_pos c0]
        exact Each.two (s2 _ _ hg) (s2 _ _ (s1 _ _ e3))
      · unfold placeWords
        rw [if_pos c0]
        show 2 ≤ 10
        omega
    · have c0 : p.handling ≠ 0 := fun z => c (by rw [z]; rfl)
      refine ifT (by rw [decide_eq_false c]; rfl) ⟨_, rfl, .inl ⟨rfl, _, SqL.of upd_same⟩, _, rfl, b, _, dx, _, _, rfl, s2 _ _ (s1 _ _ e1), c_Place T, n_Place_handling T, rfl, p.handling, rfl, by omega, fun d H3 s3 nd hd => ?_⟩
      have h3 : H3 l = some (.lst [.ref g, .ref sg]) := s3 _ _ upd_same
      have s4 : Same H (upd H3 l (.lst [.ref g, .ref sg, .ref d])) := same_upd (s1.free hl1) ((s1.trans s2).trans s3)
      have up : ∀ c o, c ≠ l → H3 c = some o → (upd H3 l (.lst [.ref g, .ref sg, .ref d])) c = some o := fun c o hc e => by
        rw [upd_ne hc]
        exact e
      refine ⟨l, _, .ref d, rfl, rfl, h3, (by show 2 < sizeLine; rw [sizeLine_eq]; omega), ?_⟩
      refine ⟨_, rfl, l, _, placeWords p, rfl, SqL.of upd_same, ?_, ?_, lens, fun p2 H2 s5 np hp => q p2 H2 (s4.trans s5) (s4.free np) hp⟩
      · unfold placeWords
        rw [if_neg c0]
        exact (Each.two (up _ _ (ne_of_none hg hl1) (s3 _ _ (s2 _ _ hg))) (s4 _ _ e3)).snoc (up _ _ (ne_of_none (upd_same (H := H1)) nd).symm hd)
      · unfold placeWords
        rw [if_neg c0]
        show 3 ≤ 10
        omega
theorem Each.cons {α : Type} {R : Addr → α → Prop} {a : Addr} {x : α} {xs : List V} {l : List α} (h : R a x) (t : Each R xs l) : Each R (.ref a :: xs) (x :: l) := Each.append (Each.nil.snoc h) t
def carWords (n : Vbtoad.Net) (c : Vbtoad.Car) : List (List Nat) := [Vbbtaa.chars "car", c.name, Vbtoad.placeName n c.from_, Vbtoad.placeName n c.to_, Vbbtaa.decimal c.long]
def goWords (n : Vbtoad.Net) (g : Vbtoad.Go) : List (List Nat) := [Vbbtaa.chars "go", g.name, Vbtoad.placeName n g.from_, Vbbtaa.decimal g.dep, Vbtoad.placeName n g.to_, Vbbtaa.decimal g.arr]
theorem placeName_is {n : Vbtoad.Net} {i : Nat} {p : Vbtoad.Place} (h : n.places[i]? = some p) : Vbtoad.placeName n i = p.name := by
  unfold Vbtoad.placeName
  rw [h]
  rfl
theorem place_get {S : List Addr} {H : Hp} {xs : List V} {l : List Vbtoad.Place} (h : Each (PlaceAt K S H) xs l) {i : Nat} (hi : i < l.length) : ∃ b dx sg p, xs[i]? = some (.ref b) ∧ l[i]? = some p ∧ H b = some (.ins (He.ga K "Place") dx [("name", .ref sg), ("handling", .int p.handling)]) ∧ H sg = some (.lst (nv p.name)) := by
  obtain ⟨b, eb, dx, sg, e1, _, e3, _⟩ := h.at_ i _ (List.getElem?_eq_getElem hi)
  exact ⟨b, dx, sg, _, eb, List.getElem?_eq_getElem hi, e1, e3⟩
def sp_written_car (K : PySem.W.Frag) : Sp := fun vs H Q _ => ∃ (S : List Addr) (na b : Addr) (n : Vbtoad.Net) (c : Vbtoad.Car), vs = [.ref na, .ref b] ∧ NetAt K S H na n ∧ WF n ∧ c ∈ n.cars ∧ CarAt K S H b c ∧ NewText H Q (lineM (carWords n c) ++ [10])
theorem sc_written_car : FnScope ["net", "car", "origin", "end"] ["net", "car"] d_written_car.scope := ⟨rfl, rfl, rfl, by decide +kernel, rfl, by decide +kernel, by decide +kernel⟩
theorem ok_written_car (T : Fx K mg base) : Fn0 P w K mg base 3 "written_car" (sp_written_car K) := by
  obtain ⟨fd, F⟩ := F_written_car T
  refine ⟨⟨_, fd, ["net", "car"], F.ok sc_written_car (fun vs H Q E h => ?_) (fun cdv A outer s H vs Q E hr h => ⟨_, PSs.nox (pss_cons (ps_set (i := 2) sc_written_car.nd rfl (Or.inl rfl) (pe_fld (pe_ix ix_list (pe_fld (pv 0) rfl) (pe_fld (pv 1) rfl) (fun _ _ => rfl)) rfl)) (pss_cons (ps_set (i := 3) sc_written_car.nd rfl (Or.inl rfl) (pe_fld (pe_ix ix_list (pe_fld (pv 0) rfl) (pe_fld (pv 1) rfl) (fun _ _ => rfl)) rfl)) (pss_one (ps_ret (pe_c0 (ok_written_line T) hr (by decide) rfl (pa_cons (pe_lst (pa_cons (pe_c0 (ok_bytes_of T) hr (by decide) rfl (pa_cons (pe_str) pa_nil)) (pa_cons (pe_fld (pv 1) rfl) (pa_cons (pv 2) (pa_cons (pv 3) (pa_cons (pe_c0 (ok_written_number T) hr (by decide) rfl (pa_cons (pe_fld (pv 1) rfl) pa_nil)) pa_nil)))))) pa_nil)))))), ?_⟩), g_written_car T, F.kp, F.bindsN (fun _ _ _ _ _ _ us hl => match us, hl with | [_, _], _ => rfl)⟩⟩
  · obtain ⟨S, na, b, n, c, rfl, _⟩ := h
    rfl
  · obtain ⟨S, na, b, n, c, rfl, ⟨lp, lc, ld, ⟨⟨⟨dn, en⟩, ea⟩, ⟨ps, ep, rp⟩, _, _⟩, _⟩, hW, hc, ⟨dx, sg, e1, e2, e3, e4⟩, q⟩ := h
    have C := hW.car c hc
    obtain ⟨b1, d1, g1, p1, x1, y1, z1, v1⟩ := place_get rp C.1
    obtain ⟨b2, d2, g2, p2, x2, y2, z2, v2⟩ := place_get rp C.2.1
    have hn := (name_len (hW.cn c hc)).1
    have hn1 := (name_len (hW.pn p1 (List.mem_of_getElem? y1))).1
    have hn2 := (name_len (hW.pn p2 (List.mem_of_getElem? y2))).1
    have hd := decimal_len (show c.long < 10000000 by omega)
    refine ⟨_, rfl, na, _, dn, _, _, rfl, en, c_Net T, n_Net_places T, rfl, _, rfl, b, _, dx, _, _, rfl, e1, c_Car T, n_Car_origin T, rfl, lp, ps, (c.from_ : Int), .ref b1, rfl, rfl, SqL.of ep, atI_nat x1, b1, _, d1, _, _, rfl, z1, c_Place T, n_Place_name T, rfl, ?_⟩
    refine ⟨_, rfl, na, _, dn, _, _, rfl, en, c_Net T, n_Net_places T, rfl, _, rfl, b, _, dx, _, _, rfl, e1, c_Car T, n_Car_end T, rfl, lp, ps, (c.to_ : Int), .ref b2, rfl, rfl, SqL.of ep, atI_nat x2, b2, _, d2, _, _, rfl, z2, c_Place T, n_Place_name T, rfl, ?_⟩
    refine ⟨"car", rfl, (by decide), fun g H1 s1 ng hg => ⟨_, rfl, b, _, dx, _, _, rfl, s1 _ _ e1, c_Car T, n_Car_name T, rfl, _, rfl, _, rfl, _, rfl, b, _, dx, _, _, rfl, s1 _ _ e1, c_Car T, n_Car_minutes T, rfl, c.long, rfl, by omega, fun h H2 s2 nh hh => ⟨by show 5 ≤ sizeLine; rw [sizeLine_eq]; omega, fun l hl => ?_⟩⟩⟩
    have s3 : Same H2 (upd H2 l (.lst [.ref g, .ref sg, .ref g1, .ref g2, .ref h])) := same_new hl
    have sa := (s1.trans s2).trans s3
    refine ⟨l, _, carWords n c, rfl, SqL.of upd_same, ?_, (by show 5 ≤ 10; omega), fun t ht => ?_, fun p3 H3 s4 np hp => q p3 H3 (sa.trans s4) (sa.free np) hp⟩
    · unfold carWords
      rw [placeName_is y1, placeName_is y2]
      exact .cons (s3 _ _ (s2 _ _ hg)) (.cons (sa _ _ e3) (.cons (sa _ _ v1) (.cons (sa _ _ v2) (.cons (s3 _ _ hh) .nil))))
    · unfold carWords at ht
      rw [placeName_is y1, placeName_is y2] at ht
      simp only [List.mem_cons, List.not_mem_nil, or_false] at ht
      rcases ht with rfl | rfl | rfl | rfl | rfl
      · decide
      · omega
      · omega
      · omega
      · omega
def sp_written_departure (K : PySem.W.Frag) : Sp := fun vs H Q _ => ∃ (S : List Addr) (na b : Addr) (n : Vbtoad.Net) (c : Vbtoad.Go), vs = [.ref na, .ref b] ∧ NetAt K S H na n ∧ WF n ∧ c ∈ n.goes ∧ GoAt K S H b c ∧ NewText H Q (lineM (goWords n c) ++ [10])
theorem sc_written_departure : FnScope ["net", "departure", "leaving", "coming"] ["net", "departure"] d_written_departure.scope := ⟨rfl, rfl, rfl, by decide +kernel, rfl, by decide +kernel, by decide +kernel⟩
theorem ok_written_departure (T : Fx K mg base) : Fn0 P w K mg base 3 "written_departure" (sp_written_departure K) := by
  obtain ⟨fd, F⟩ := F_written_departure T
  refine ⟨⟨_, fd, ["net", "departure"], F.ok sc_written_departure (fun vs H Q E h => ?_) (fun cdv A outer s H vs Q E hr h => ⟨_, PSs.nox (pss_cons (ps_set (i := 2) sc_written_departure.nd rfl (Or.inl rfl) (pe_lst (pa_cons (pe_fld (pe_ix ix_list (pe_fld (pv 0) rfl) (pe_fld (pv 1) rfl) (fun _ _ => rfl)) rfl) (pa_cons (pe_c0 (ok_written_number T) hr (by decide) rfl (pa_cons (pe_fld (pv 1) rfl) pa_nil)) pa_nil)))) (pss_cons (ps_set (i := 3) sc_written_departure.nd rfl (Or.inl rfl) (pe_lst (pa_cons (pe_fld (pe_ix ix_list (pe_fld (pv 0) rfl) (pe_fld (pv 1) rfl) (fun _ _ => rfl)) rfl) (pa_cons (pe_c0 (ok_written_number T) hr (by decide) rfl (pa_cons (pe_fld (pv 1) rfl) pa_nil)) pa_nil)))) (pss_one (ps_ret (pe_c0 (ok_written_line T) hr (by decide) rfl (pa_cons (pe_op op_cat (pe_op op_cat (pe_lst (pa_cons (pe_c0 (ok_bytes_of T) hr (by decide) rfl (pa_cons (pe_str) pa_nil)) (pa_cons (pe_fld (pv 1) rfl) pa_nil))) (pv 2)) (pv 3)) pa_nil)))))), ?_⟩), g_written_departure T, F.kp, F.bindsN (fun _ _ _ _ _ _ us hl => match us, hl with | [_, _], _ => rfl)⟩⟩
  · obtain ⟨S, na, b, n, c, rfl, _⟩ := h
    rfl
  · obtain ⟨S, na, b, n, c, rfl, ⟨lp, lc, ld, ⟨⟨⟨dn, en⟩, ea⟩, ⟨ps, ep, rp⟩, _, _⟩, _⟩, hW, hc, ⟨dx, sg, e1, e2, e3, e4⟩, q⟩ := h
    have C := hW.go c hc
    obtain ⟨b1, d1, g1, p1, x1, y1, z1, v1⟩ := place_get rp C.1
    obtain ⟨b2, d2, g2, p2, x2, y2, z2, v2⟩ := place_get rp C.2.1
    have hn := (name_len (hW.gn c hc)).1
    have hn1 := (name_len (hW.pn p1 (List.mem_of_getElem? y1))).1
    have hn2 := (name_len (hW.pn p2 (List.mem_of_getElem? y2))).1
    have hd1 := decimal_len (show c.dep < 10000000 by omega)
    have hd2 := decimal_len (show c.arr < 10000000 by omega)
    have two : ∀ a b : V, [a, b].length ≤ sizeLine := fun a b => by show 2 ≤ sizeLine; rw [sizeLine_eq]; omega
    refine ⟨_, rfl, na, _, dn, _, _, rfl, en, c_Net T, n_Net_places T, rfl, _, rfl, b, _, dx, _, _, rfl, e1, c_Departure T, n_Departure_origin T, rfl, lp, ps, (c.from_ : Int), .ref b1, rfl, rfl, SqL.of ep, atI_nat x1, b1, _, d1, _, _, rfl, z1, c_Place T, n_Place_name T, rfl, _, rfl, b, _, dx, _, _, rfl, e1, c_Departure T, n_Departure_leaves T, rfl, c.dep, rfl, by omega, fun h1 H1 s1 nh1 hh1 => ⟨two _ _, fun l1 hl1 => ?_⟩⟩
    have t1 : Same H (upd H1 l1 (.lst [.ref g1, .ref h1])) := s1.trans (same_new hl1)
    have el1 : (upd H1 l1 (.lst [.ref g1, .ref h1])) l1 = some (.lst [.ref g1, .ref h1]) := upd_same
    have eh1 : TextAt (upd H1 l1 (.lst [.ref g1, .ref h1])) h1 (Vbbtaa.decimal c.dep) := same_new hl1 _ _ hh1
    generalize upd H1 l1 (.lst [.ref g1, .ref h1]) = H2 at t1 el1 eh1 ⊢
    refine ⟨_, rfl, na, _, dn, _, _, rfl, t1 _ _ en, c_Net T, n_Net_places T, rfl, _, rfl, b, _, dx, _, _, rfl, t1 _ _ e1, c_Departure T, n_Departure_end T, rfl, lp, ps, (c.to_ : Int), .ref b2, rfl, rfl, SqL.of (t1 _ _ ep), atI_nat x2, b2, _, d2, _, _, rfl, t1 _ _ z2, c_Place T, n_Place_name T, rfl, _, rfl, b, _, dx, _, _, rfl, t1 _ _ e1, c_Departure T, n_Departure_comes T, rfl, c.arr, rfl, by omega, fun h2 H3 s3 nh2 hh2 => ⟨two _ _, fun l2 hl2 => ?_⟩⟩
    have t2 : Same H2 (upd H3 l2 (.lst [.ref g2, .ref h2])) := s3.trans (same_new hl2)
    have el2 : (upd H3 l2 (.lst [.ref g2, .ref h2])) l2 = some (.lst [.ref g2, .ref h2]) := upd_same
    have eh2 : TextAt (upd H3 l2 (.lst [.ref g2, .ref h2])) h2 (Vbbtaa.decimal c.arr) := same_new hl2 _ _ hh2
    generalize upd H3 l2 (.lst [.ref g2, .ref h2]) = H4 at t2 el2 eh2 ⊢
    have t3 := t1.trans t2
    refine ⟨"go", rfl, (by decide), fun g H5 s5 ng hg => ⟨_, rfl, b, _, dx, _, _, rfl, s5 _ _ (t3 _ _ e1), c_Departure T, n_Departure_name T, rfl, two _ _, fun l3 hl3 => ?_⟩⟩
    have hg : TextAt H5 g (Vbbtaa.chars "go") := hg
    have t5 : Same H4 (upd H5 l3 (.lst [.ref g, .ref sg])) := s5.trans (same_new hl3)
    have el3 : (upd H5 l3 (.lst [.ref g, .ref sg])) l3 = some (.lst [.ref g, .ref sg]) := upd_same
    have eg : TextAt (upd H5 l3 (.lst [.ref g, .ref sg])) g (Vbbtaa.chars "go") := same_new hl3 _ _ hg
    generalize upd H5 l3 (.lst [.ref g, .ref sg]) = H6 at t5 el3 eg ⊢
    refine ⟨_, rfl, l3, l1, _, _, rfl, rfl, el3, t5 _ _ (t2 _ _ el1), (by show 2 + 2 ≤ sizeLine; rw [sizeLine_eq]; omega), fun l4 hl4 => ?_⟩
    have t6 : Same H6 (upd H6 l4 (.lst [.ref g, .ref sg, .ref g1, .ref h1])) := same_new hl4
    have el4 : (upd H6 l4 (.lst [.ref g, .ref sg, .ref g1, .ref h1])) l4 = some (.lst [.ref g, .ref sg, .ref g1, .ref h1]) := upd_same
    refine ⟨_, rfl, l4, l2, _, _, rfl, rfl, el4, t6 _ _ (t5 _ _ el2), (by show 4 + 2 ≤ sizeLine; rw [sizeLine_eq]; omega), fun l5 hl5 => ?_⟩
    have t7 : Same (upd H6 l4 (.lst [.ref g, .ref sg, .ref g1, .ref h1])) (upd (upd H6 l4 (.lst [.ref g, .ref sg, .ref g1, .ref h1])) l5 (.lst [.ref g, .ref sg, .ref g1, .ref h1, .ref g2, .ref h2])) := same_new hl5
    have t67 := t6.trans t7
    have sa := (t3.trans t5).trans t67
    refine ⟨l5, _, goWords n c, rfl, SqL.of upd_same, ?_, (by show 6 ≤ 10; omega), fun t ht => ?_, fun p3 H7 s4 np hp => q p3 H7 (sa.trans s4) (sa.free np) hp⟩
    · unfold goWords
      rw [placeName_is y1, placeName_is y2]
      exact .cons (t67 _ _ eg) (.cons (sa _ _ e3) (.cons (sa _ _ v1) (.cons (t67 _ _ (t5 _ _ (t2 _ _ eh1))) (.cons (sa _ _ v2) (.cons (t67 _ _ (t5 _ _ eh2)) .nil)))))
    · unfold goWords at ht
      rw [placeName_is y1, placeName_is y2] at ht
      simp only [List.mem_cons, List.not_mem_nil, or_false] at ht
      rcases ht with rfl | rfl | rfl | rfl | rfl | rfl
      · decide
      · omega
      · omega
      · omega
      · omega
      · omega
end
end SJ
end
section
set_option Elab.async false
set_option linter.all false
set_option maxRecDepth 100000
set_option maxHeartbeats 4000000
/-! The defs of reading.py: a net written. -/
namespace SJ
open PySem PySem.Spec PyProof.Rows L2
theorem lineM_len {m : Nat} : ∀ (ws : List (List Nat)), (∀ t ∈ ws, t.length ≤ m) → (lineM ws).length ≤ (m + 1) * ws.length := by
  intro ws
  have h : ∀ (ws : List (List Nat)) (a : List Nat), (∀ t ∈ ws, t.length ≤ m) → (ws.foldl (fun l w => (if 0 < l.length then l ++ [32] else l) ++ w) a).length ≤ a.length + (m + 1) * ws.length := by
    intro ws
    induction ws with
    | nil => intro a _; exact Nat.le_add_right _ _
    | cons w ws ih =>
      intro a hw
      rw [List.foldl_cons]
      have h1 := ih ((if 0 < a.length then a ++ [32] else a) ++ w) fun t ht => hw t (List.mem_cons_of_mem _ ht)
      have h2 := hw w List.mem_cons_self
      have h3 : ((if 0 < a.length then a ++ [32] else a) ++ w).length ≤ a.length + (m + 1) := by
        rw [List.length_append]
        split
        · rw [List.length_append]
          show a.length + 1 + w.length ≤ _
          omega
        · omega
      rw [List.length_cons, Nat.mul_succ]
      omega
  intro hw
  have := h ws [] hw
  rw [List.length_nil, Nat.zero_add] at this
  exact this
theorem line_len {ws : List (List Nat)} (h : ∀ t ∈ ws, t.length ≤ 12) (hl : ws.length ≤ 6) : (lineM ws ++ [10]).length ≤ 79 := by
  have := lineM_len ws h
  rw [List.length_append]
  show (lineM ws).length + 1 ≤ 79
  omega
theorem placeName_len {n : Vbtoad.Net} (W : WF n) {i : Nat} : (Vbtoad.placeName n i).length ≤ 12 := by
  unfold Vbtoad.placeName
  cases h : n.places[i]? with
  | none => exact Nat.zero_le _
  | some p => exact (name_len (W.pn p (List.mem_of_getElem? h))).1
theorem decimal_len12 {m : Nat} (h : m < 10000000) : (Vbbtaa.decimal m).length ≤ 12 := Nat.le_trans (decimal_len h) (by decide)
theorem place_line_len {n : Vbtoad.Net} (W : WF n) {p : Vbtoad.Place} (h : p ∈ n.places) : (lineM (placeWords p) ++ [10]).length ≤ 79 := by
  refine line_len (fun t ht => ?_) ?_
  · unfold placeWords at ht
    rcases List.mem_append.mp ht with ht | ht
    · simp only [List.mem_cons, List.not_mem_nil, or_false] at ht
      rcases ht with rfl | rfl
      · decide
      · exact (name_len (W.pn p h)).1
    · split at ht
      · cases ht
      · rw [List.mem_singleton.mp ht]
        exact decimal_len12 (by have := W.hh p h; omega)
  · unfold placeWords
    split
    · show 2 ≤ 6
      omega
    · show 3 ≤ 6
      omega
theorem car_line_len {n : Vbtoad.Net} (W : WF n) {c : Vbtoad.Car} (h : c ∈ n.cars) : (lineM (carWords n c) ++ [10]).length ≤ 79 := by
  refine line_len (fun t ht => ?_) (by show 5 ≤ 6; omega)
  unfold carWords at ht
  simp only [List.mem_cons, List.not_mem_nil, or_false] at ht
  rcases ht with rfl | rfl | rfl | rfl | rfl
  · decide
  · exact (name_len (W.cn c h)).1
  · exact placeName_len W
  · exact placeName_len W
  · exact decimal_len12 (by have := W.car c h; omega)
theorem go_line_len {n : Vbtoad.Net} (W : WF n) {c : Vbtoad.Go} (h : c ∈ n.goes) : (lineM (goWords n c) ++ [10]).length ≤ 79 := by
  refine line_len (fun t ht => ?_) (by show 6 ≤ 6; omega)
  unfold goWords at ht
  simp only [List.mem_cons, List.not_mem_nil, or_false] at ht
  rcases ht with rfl | rfl | rfl | rfl | rfl | rfl
  · decide
  · exact (name_len (W.gn c h)).1
  · exact placeName_len W
  · exact decimal_len12 (by have := W.go c h; omega)
  · exact placeName_len W
  · exact decimal_len12 (by have := W.go c h; omega)
theorem flat_len {α : Type} {f : α → List Nat} {m : Nat} : ∀ (l : List α), (∀ x ∈ l, (f x).length ≤ m) → (l.flatMap f).length ≤ m * l.length
  | [], _ => Nat.zero_le _
  | x :: l, h => by
    rw [List.flatMap_cons, List.length_append, List.length_cons, Nat.mul_succ]
    have h1 := h x List.mem_cons_self
    have h2 := flat_len l fun y hy => h y (List.mem_cons_of_mem _ hy)
    omega
theorem written_is (n : Vbtoad.Net) : Vbtoad.written n = (n.places.flatMap fun x => lineM (placeWords x) ++ [10]) ++ ((n.cars.flatMap fun x => lineM (carWords n x) ++ [10]) ++ n.goes.flatMap fun x => lineM (goWords n x) ++ [10]) := by
  unfold Vbtoad.written
  rw [List.flatMap_append, List.flatMap_append, List.flatMap_map, List.flatMap_map, List.flatMap_map]
  congr 1
  · refine congrArg (fun f => List.flatMap f n.places) (funext fun p => ?_)
    have e : [Vbbtaa.chars "place", p.name] ++ (if p.handling = 0 then [] else [Vbbtaa.decimal p.handling]) = Vbbtaa.chars "place" :: (p.name :: (if p.handling = 0 then [] else [Vbbtaa.decimal p.handling])) := rfl
    have e2 : placeWords p = Vbbtaa.chars "place" :: (p.name :: (if p.handling = 0 then [] else [Vbbtaa.decimal p.handling])) := rfl
    rw [e2, lineM_is (by decide)]
    rfl
  · congr 1
    · refine congrArg (fun f => List.flatMap f n.cars) (funext fun p => ?_)
      unfold carWords
      rw [lineM_is (by decide)]
    · refine congrArg (fun f => List.flatMap f n.goes) (funext fun p => ?_)
      unfold goWords
      rw [lineM_is (by decide)]
theorem written_len {n : Vbtoad.Net} (W : WF n) : (Vbtoad.written n).length ≤ 4266 := by
  rw [written_is, List.length_append, List.length_append]
  have h1 := flat_len (f := fun x => lineM (placeWords x) ++ [10]) n.places fun x hx => place_line_len W hx
  have h2 := flat_len (f := fun x => lineM (carWords n x) ++ [10]) n.cars fun x hx => car_line_len W hx
  have h3 := flat_len (f := fun x => lineM (goWords n x) ++ [10]) n.goes fun x hx => go_line_len W hx
  have := W.np
  have := W.nc
  have := W.ng
  omega
section
variable {P : Program} {w : World} {K : PySem.W.Frag} {mg : Str → Option Value} {base : Heap}
def sp_written_net (K : PySem.W.Frag) : Sp := fun vs H Q _ => ∃ (S : List Addr) (na : Addr) (n : Vbtoad.Net), vs = [.ref na] ∧ NetAt K S H na n ∧ WF n ∧ NewText H Q (Vbtoad.written n)
theorem sc_written_net : FnScope ["net", "text", "place", "car", "departure"] ["net"] d_written_net.scope := ⟨rfl, rfl, rfl, by decide +kernel, rfl, by decide +kernel, by decide +kernel⟩
theorem ok_written_net (T : Fx K mg base) : Fn0 P w K mg base 4 "written_net" (sp_written_net K) := by
  obtain ⟨fd, F⟩ := F_written_net T
  refine ⟨⟨_, fd, ["net"], F.ok sc_written_net (fun vs H Q E h => ?_) (fun cdv A outer s H vs Q E hr h => ⟨_, PSs.nox (pss_cons (ps_set (i := 1) sc_written_net.nd rfl (Or.inl rfl) (pe_lst (pa_nil))) (pss_cons (ps_for PassesOwn.never rfl (pi_list (pe_fld (pv 0) rfl)) (pg_name (i := 2) sc_written_net.nd rfl (Or.inl rfl)) (pss_one (ps_expr (pe_bm PySem.F.plainAttrs_list PySem.F.slot_list_extend PySem.F.type_list_extend mt_extend (pv 1) (pa_cons (pe_c0 (ok_written_place T) hr (by decide) rfl (pa_cons (pv 2) pa_nil)) pa_nil))))) (pss_cons (ps_for PassesOwn.never rfl (pi_list (pe_fld (pv 0) rfl)) (pg_name (i := 3) sc_written_net.nd rfl (Or.inl rfl)) (pss_one (ps_expr (pe_bm PySem.F.plainAttrs_list PySem.F.slot_list_extend PySem.F.type_list_extend mt_extend (pv 1) (pa_cons (pe_c0 (ok_written_car T) hr (by decide) rfl (pa_cons (pv 0) (pa_cons (pv 3) pa_nil))) pa_nil))))) (pss_cons (ps_for PassesOwn.never rfl (pi_list (pe_fld (pv 0) rfl)) (pg_name (i := 4) sc_written_net.nd rfl (Or.inl rfl)) (pss_one (ps_expr (pe_bm PySem.F.plainAttrs_list PySem.F.slot_list_extend PySem.F.type_list_extend mt_extend (pv 1) (pa_cons (pe_c0 (ok_written_departure T) hr (by decide) rfl (pa_cons (pv 0) (pa_cons (pv 4) pa_nil))) pa_nil))))) (pss_one (ps_ret (pv 1))))))), ?_⟩), g_written_net T, F.kp, F.bindsN (fun _ _ _ _ _ _ us hl => match us, hl with | [_], _ => rfl)⟩⟩
  · obtain ⟨S, na, n, rfl, _⟩ := h
    rfl
  · obtain ⟨S, na, n, rfl, hA, hW, q⟩ := h
    obtain ⟨lp, lc, ld, ⟨⟨⟨dn, en⟩, ea⟩, ⟨ps, ep, rp⟩, ⟨cs, ec, rc⟩, ⟨ds, ed, rd⟩⟩, _⟩ := id hA
    refine ⟨Nat.zero_le _, fun tx ht => ?_⟩
    have s0 : Same H (upd H tx (.lst [])) := same_new ht
    refine ⟨_, rfl, na, _, dn, _, _, rfl, s0 _ _ en, c_Net T, n_Net_places T, rfl, lp, rfl, ⟨_, SqL.of (s0 _ _ ep)⟩, for_it (walk_list (xs := ps)) (fun i σ G1 => ∃ v3 v4 v5, σ = [some (.ref na), some (.ref tx), v3, v4, v5] ∧ Same H G1 ∧ ∃ acc, acc = [] ++ ((n.places.take i).flatMap fun x => lineM (placeWords x) ++ [10]) ∧ acc.length ≤ 0 + 79 * i ∧ G1 tx = some (.lst (nv acc))) ⟨_, _, _, rfl, s0, [], by rw [List.take_zero, List.flatMap_nil, List.append_nil], Nat.zero_le _, upd_same⟩ (fun i σ G1 _ ⟨_, _, _, _, s1, _⟩ => SqL.of (s1 _ _ ep)) ?_ ?_⟩
    · rintro i x σ G1 G2 hi ⟨u3, u4, u5, rfl, s1, acc, ea, hacc, h1⟩ ⟨rfl, hx⟩
      obtain ⟨b, th, rfl, hth, hb⟩ := rp.get hx
      have mem := List.mem_of_getElem? hth
      have hl : (lineM (placeWords th) ++ [10]).length ≤ 79 := place_line_len hW mem
      have hi2 : i < n.places.length := by rw [← rp.len]; exact hi
      refine ⟨_, rfl, .inl ⟨rfl, _, SqL.of h1⟩, _, rfl, S, b, th, rfl, hb.keep (Same.keeps s1), (name_len (hW.pn th mem)).1, hW.hh th mem, fun g G3 s3 ng hg => ⟨tx, g, _, _, rfl, rfl, s3 _ _ h1, hg, by rw [nv_len, nv_len, sizeLine_eq]; have := hW.np; omega, ?_⟩⟩
      refine ⟨_, _, _, rfl, same_upd ht (s1.trans s3), acc ++ (lineM (placeWords th) ++ [10]), ?_, by rw [List.length_append]; omega, by rw [upd_same, nv_append acc]⟩
      rw [ea, List.take_add_one, hth, List.flatMap_append, List.append_assoc]
      simp
    · rintro σ Ga ⟨u3, u4, u5, rfl, sa, acca, eaa, hacca, ha1⟩
      rw [List.take_of_length_le (by rw [rp.len]; exact Nat.le_refl _)] at eaa
      rw [rp.len] at hacca
      refine ⟨_, rfl, na, _, dn, _, _, rfl, sa _ _ en, c_Net T, n_Net_cars T, rfl, lc, rfl, ⟨_, SqL.of (sa _ _ ec)⟩, for_it (walk_list (xs := cs)) (fun i σ G1 => ∃ v3 v4 v5, σ = [some (.ref na), some (.ref tx), v3, v4, v5] ∧ Same H G1 ∧ ∃ acc, acc = acca ++ ((n.cars.take i).flatMap fun x => lineM (carWords n x) ++ [10]) ∧ acc.length ≤ 632 + 79 * i ∧ G1 tx = some (.lst (nv acc))) ⟨_, _, _, rfl, sa, acca, by rw [List.take_zero, List.flatMap_nil, List.append_nil], by have := hW.np; omega, ha1⟩ (fun i σ G1 _ ⟨_, _, _, _, s1, _⟩ => SqL.of (s1 _ _ ec)) ?_ ?_⟩
      · rintro i x σ G1 G2 hi ⟨u3, u4, u5, rfl, s1, acc, ea, hacc, h1⟩ ⟨rfl, hx⟩
        obtain ⟨b, th, rfl, hth, hb⟩ := rc.get hx
        have mem := List.mem_of_getElem? hth
        have hl : (lineM (carWords n th) ++ [10]).length ≤ 79 := car_line_len hW mem
        have hi2 : i < n.cars.length := by rw [← rc.len]; exact hi
        refine ⟨_, rfl, .inl ⟨rfl, _, SqL.of h1⟩, _, rfl, _, rfl, S, na, b, n, th, rfl, hA.same s1, hW, mem, hb.keep (Same.keeps s1), fun g G3 s3 ng hg => ⟨tx, g, _, _, rfl, rfl, s3 _ _ h1, hg, by rw [nv_len, nv_len, sizeLine_eq]; have := hW.nc; omega, ?_⟩⟩
        refine ⟨_, _, _, rfl, same_upd ht (s1.trans s3), acc ++ (lineM (carWords n th) ++ [10]), ?_, by rw [List.length_append]; omega, by rw [upd_same, nv_append acc]⟩
        rw [ea, List.take_add_one, hth, List.flatMap_append, List.append_assoc]
        simp
      · rintro σ Gb ⟨u3, u4, u5, rfl, sb, accb, eab, haccb, hb1⟩
        rw [List.take_of_length_le (by rw [rc.len]; exact Nat.le_refl _)] at eab
        rw [rc.len] at haccb
        refine ⟨_, rfl, na, _, dn, _, _, rfl, sb _ _ en, c_Net T, n_Net_departures T, rfl, ld, rfl, ⟨_, SqL.of (sb _ _ ed)⟩, for_it (walk_list (xs := ds)) (fun i σ G1 => ∃ v3 v4 v5, σ = [some (.ref na), some (.ref tx), v3, v4, v5] ∧ Same H G1 ∧ ∃ acc, acc = accb ++ ((n.goes.take i).flatMap fun x => lineM (goWords n x) ++ [10]) ∧ acc.length ≤ 1896 + 79 * i ∧ G1 tx = some (.lst (nv acc))) ⟨_, _, _, rfl, sb, accb, by rw [List.take_zero, List.flatMap_nil, List.append_nil], by have := hW.nc; omega, hb1⟩ (fun i σ G1 _ ⟨_, _, _, _, s1, _⟩ => SqL.of (s1 _ _ ed)) ?_ ?_⟩
        · rintro i x σ G1 G2 hi ⟨u3, u4, u5, rfl, s1, acc, ea, hacc, h1⟩ ⟨rfl, hx⟩
          obtain ⟨b, th, rfl, hth, hb⟩ := rd.get hx
          have mem := List.mem_of_getElem? hth
          have hl : (lineM (goWords n th) ++ [10]).length ≤ 79 := go_line_len hW mem
          have hi2 : i < n.goes.length := by rw [← rd.len]; exact hi
          refine ⟨_, rfl, .inl ⟨rfl, _, SqL.of h1⟩, _, rfl, _, rfl, S, na, b, n, th, rfl, hA.same s1, hW, mem, hb.keep (Same.keeps s1), fun g G3 s3 ng hg => ⟨tx, g, _, _, rfl, rfl, s3 _ _ h1, hg, by rw [nv_len, nv_len, sizeLine_eq]; have := hW.ng; omega, ?_⟩⟩
          refine ⟨_, _, _, rfl, same_upd ht (s1.trans s3), acc ++ (lineM (goWords n th) ++ [10]), ?_, by rw [List.length_append]; omega, by rw [upd_same, nv_append acc]⟩
          rw [ea, List.take_add_one, hth, List.flatMap_append, List.append_assoc]
          simp
        · rintro σ Gc ⟨u3, u4, u5, rfl, sc, accc, eac, haccc, hc1⟩
          rw [List.take_of_length_le (by rw [rd.len]; exact Nat.le_refl _)] at eac
          rw [rd.len] at haccc
          refine ⟨_, rfl, q tx Gc sc ht ?_⟩
          unfold TextAt
          rw [hc1, eac, eab, eaa, written_is, List.nil_append, List.append_assoc]
end
end SJ
end
section
set_option Elab.async false
set_option linter.all false
set_option maxRecDepth 100000
set_option maxHeartbeats 4000000
/-! Rules within a comprehension: the fragment by its name. -/
namespace SJ
open PySem PySem.Spec PyProof.Rows L2
section
variable {X : Cx} {K : PySem.W.Frag}
theorem pg_tupK {es : List Expr} {k : Nat} {t : TGs} {n : Nat} {pos : Pos} (hK : X.K = K) (hc : X.calm = true) (h : PGs X es t)
    (hn : (assignEach es X.env).length = n := by rfl) (hst : (assignEach es X.env).findIdx? (·.1) = none := by rfl) : PG X (.Tuple es k pos) (gTup K n t) := hK ▸ pg_tup hc h hn hst
theorem pe_fldK {e : Expr} {ta : TE} {f : Str} {pos : Pos} (hK : X.K = K) (he : PE X e ta) (hb : attributeBase e f X.env (eval e X.env) = eval e X.env) : PE X (.Attribute e f pos) (tFld K ta f) := hK ▸ pe_fld he hb
theorem ix_listK (hK : X.K = K) : IxR X (rIxL K) := hK ▸ ix_list
end
end SJ
end
section
set_option Elab.async false
set_option linter.all false
set_option maxRecDepth 100000
set_option maxHeartbeats 4000000
/-! The defs of ways.py. -/
namespace SJ
open PySem PySem.Spec PyProof.Rows L2
/-! ## tables of numbers -/
def rowsOf (m : Nat) (f : Nat → Nat → Nat) : List (List Nat) := (List.range m).map fun p => (List.range m).map fun q => f p q
theorem rowsOf_len (m : Nat) (f : Nat → Nat → Nat) : (rowsOf m f).length = m := by
  unfold rowsOf
  rw [List.length_map, List.length_range]
theorem rowsOf_get {m p : Nat} (f : Nat → Nat → Nat) (h : p < m) : (rowsOf m f)[p]? = some ((List.range m).map (f p)) := by
  unfold rowsOf
  rw [List.getElem?_map, List.getElem?_range h]
  rfl
theorem rangeMap_get {m q : Nat} (f : Nat → Nat) (h : q < m) : ((List.range m).map f)[q]? = some (f q) := by
  rw [List.getElem?_map, List.getElem?_range h]
  rfl
theorem rangeMap_set {m e v : Nat} (f : Nat → Nat) : ((List.range m).map f).set e v = (List.range m).map fun q => if q = e then v else f q := by
  apply List.ext_getElem?
  intro i
  rw [List.getElem?_set]
  by_cases hi : i < m
  · rw [rangeMap_get _ hi, rangeMap_get _ hi]
    by_cases c : e = i
    · rw [if_pos c, if_pos c.symm, if_pos (by rw [List.length_map, List.length_range]; omega)]
    · rw [if_neg c, if_neg (fun z => c z.symm)]
  · rw [List.getElem?_eq_none (by rw [List.length_map, List.length_range]; omega), List.getElem?_eq_none (by rw [List.length_map, List.length_range]; omega)]
    split
    · rw [if_neg (by rw [List.length_map, List.length_range]; omega)]
    · rfl
theorem rowsOf_set {m o : Nat} (f : Nat → Nat → Nat) (g : Nat → Nat) : (rowsOf m f).set o ((List.range m).map g) = rowsOf m fun p q => if p = o then g q else f p q := by
  apply List.ext_getElem?
  intro i
  rw [List.getElem?_set]
  by_cases hi : i < m
  · rw [rowsOf_get _ hi, rowsOf_get _ hi]
    by_cases c : o = i
    · rw [if_pos c, if_pos (by rw [rowsOf_len]; omega)]
      simp only [if_pos c.symm]
    · rw [if_neg c]
      have c2 : ¬ i = o := fun z => c z.symm
      simp only [if_neg c2]
  · rw [List.getElem?_eq_none (by rw [rowsOf_len]; omega), List.getElem?_eq_none (by rw [rowsOf_len]; omega)]
    split
    · rw [if_neg (by rw [rowsOf_len]; omega)]
    · rfl
theorem nv_set (t : List Nat) (i v : Nat) : (nv t).set i (.int (v : Nat)) = nv (t.set i v) := by
  unfold nv
  rw [List.map_set]
/-- a table that is new to H0 -/
def NewRow (H0 H : Hp) (b : Addr) (t : List Nat) : Prop := TextAt H b t ∧ H0 b = none
structure TabNew (H0 H : Hp) (a : Addr) (rows : List (List Nat)) : Prop where
  ex : ∃ xs, H a = some (.lst xs) ∧ Each (NewRow H0 H) xs rows
  new : H0 a = none
/-- a table that stays -/
def TabAt (S : List Addr) (H : Hp) (a : Addr) (rows : List (List Nat)) : Prop := ∃ xs, H a = some (.lst xs) ∧ a ∉ S ∧ Each (fun b t => TextAt H b t ∧ b ∉ S) xs rows
theorem TabAt.keep {S : List Addr} {H H1 : Hp} {a : Addr} {rows : List (List Nat)} (h : TabAt S H a rows) (k : Keeps S H H1) : TabAt S H1 a rows := let ⟨xs, e, n, r⟩ := h; ⟨xs, k _ _ n e, n, r.mono fun _ _ z => ⟨k _ _ z.2 z.1, z.2⟩⟩
theorem TabNew.at_ {S : List Addr} {H0 H : Hp} {a : Addr} {rows : List (List Nat)} (h : TabNew H0 H a rows) (u : Used S H0) : TabAt S H a rows := let ⟨xs, e, r⟩ := h.ex; ⟨xs, e, u.new h.new, r.mono fun _ _ z => ⟨z.1, u.new z.2⟩⟩
theorem TabNew.same {H0 H H1 : Hp} {a : Addr} {rows : List (List Nat)} (h : TabNew H0 H a rows) (s : Same H H1) : TabNew H0 H1 a rows := let ⟨xs, e, r⟩ := h.ex; ⟨⟨xs, s _ _ e, r.mono fun _ _ z => ⟨s _ _ z.1, z.2⟩⟩, h.new⟩
section
variable {P : Program} {w : World} {K : PySem.W.Frag} {mg : Str → Option Value} {base : Heap}
def shorter (r o : List Nat) (x : Nat) : List Nat := List.zipWith (fun s m => min s (x + m)) r o
def sp_shorter_row (K : PySem.W.Frag) : Sp := fun vs H Q _ => ∃ (a b : Addr) (r o : List Nat) (x : Nat), vs = [.ref a, .int x, .ref b] ∧ SqL K H a (nv r) ∧ SqL K H b (nv o) ∧ r.length = o.length ∧ r.length ≤ 1000 ∧ NewText H Q (shorter r o x)
theorem sc_shorter_row : FnScope ["row", "ready", "onward", "straight", "more"] ["row", "ready", "onward"] d_shorter_row.scope := ⟨rfl, rfl, rfl, by decide +kernel, rfl, by decide +kernel, by decide +kernel⟩
theorem ok_shorter_row (T : Fx K mg base) : Fn0 P w K mg base 1 "shorter_row" (sp_shorter_row K) := by
  obtain ⟨fd, F⟩ := F_shorter_row T
  refine ⟨⟨_, fd, ["row", "ready", "onward"], F.ok sc_shorter_row (fun vs H Q E h => ?_) (fun cdv A outer s H vs Q E hr h => ⟨_, PSs.nox (pss_one (ps_ret (pe_lc (own := [("straight", 3), ("more", 4)]) (by rfl) sc_shorter_row.nd (pi_zip (by rfl) (b_zip T) (pa_cons (pv 0) (pa_cons (pv 2) pa_nil))) (blkOk_by (own := [("straight", 3), ("more", 4)]) (N := ["row", "ready", "onward", "straight", "more"]) (sc := d_shorter_row.scope) (by decide +kernel)) (fun _ _ _ _ _ => pg_tupK (K := K) (n := 2) rfl rfl (pgs_cons (pg_name (i := 3) sc_shorter_row.nd rfl (Or.inl rfl)) (pgs_cons (pg_name (i := 4) sc_shorter_row.nd rfl (Or.inl rfl)) pgs_nil))) (fun _ _ _ _ _ => pts_nil) (fun _ _ _ _ _ => pe_callB (call_min2 rfl) (by rfl) (b_min T) (by decide +kernel) (pa_cons (pv 3) (pa_cons (pe_op op_add (pv 1) (pv 4)) pa_nil)))))), ?_⟩), g_shorter_row T, F.kp, F.bindsN (fun _ _ _ _ _ _ us hl => match us, hl with | [_, _, _], _ => rfl)⟩⟩
  · obtain ⟨a, b, r, o, x, rfl, _⟩ := h
    rfl
  · obtain ⟨a, b, r, o, x, rfl, hA, hB, hlen, hsz, q⟩ := h
    refine ⟨_, rfl, _, rfl, a, b, _, _, rfl, hA, hB, fun D hD => lc_it (walk_zip (xs := nv r) (ys := nv o) (n := r.length) (by rw [nv_len, nv_len]; omega)) (fun i H1 => Same H H1 ∧ H1 D = some (.lst (nv ((shorter r o x).take i)))) ⟨same_new hD, upd_same⟩ (fun i H1 _ h => ⟨h.1.seq hA, h.1.seq hB⟩) ?_ ?_⟩
    · rintro i v H1 H2 hi ⟨s1, d1⟩ ⟨tp, y, z, rfl, htp, rfl, hy, hz⟩
      obtain ⟨m1, hm1, rfl⟩ := nv_get hy
      obtain ⟨m2, hm2, rfl⟩ := nv_get hz
      have s2 := same_new (o := .tup [.int (m1 : Nat), .int (m2 : Nat)]) htp
      refine ⟨tp, _, rfl, SqT.of upd_same, rfl, _, _, rfl, _, _, rfl, rfl, rfl, lcYes ⟨_, rfl, _, rfl, _, rfl, _, _, rfl, rfl, _, _, rfl, _, s2 _ _ d1, ?_, same_upd hD (s1.trans s2), ?_⟩⟩
      · rw [nv_len, List.length_take]
        exact small1000 (by omega)
      · have e : (shorter r o x)[i]? = some (min m1 (x + m2)) := by
          unfold shorter
          rw [List.getElem?_zipWith, hm1, hm2]
        have e2 : (if (x : Int) + (m2 : Int) < (m1 : Int) then (x : Int) + (m2 : Int) else (m1 : Int)) = ((min m1 (x + m2) : Nat) : Int) := by
          split <;> omega
        rw [upd_same, List.take_add_one, e, nv_append, e2]
        rfl
    · rintro H1 ⟨s1, d1⟩
      have l : (shorter r o x).length = r.length := by
        unfold shorter
        rw [List.length_zipWith]
        omega
      rw [← l, List.take_length] at d1
      exact q D H1 s1 hD d1
end
end SJ
end
section
set_option Elab.async false
set_option linter.all false
set_option maxRecDepth 100000
set_option maxHeartbeats 4000000
/-! The defs of ways.py: single cars. -/
namespace SJ
open PySem PySem.Spec PyProof.Rows L2
theorem row_ne {H : Hp} {tb b : Addr} {xs : List V} {t : List Nat} (e : H tb = some (.lst xs)) (hb : V.ref b ∈ xs) (ht : TextAt H b t) : b ≠ tb := by
  rintro rfl
  unfold TextAt at ht
  rw [ht] at e
  rw [← HO.lst.inj (Option.some.inj e)] at hb
  unfold nv at hb
  obtain ⟨n, _, z⟩ := List.mem_map.mp hb
  cases z
theorem rows_keep {H0 H H1 : Hp} {tb : Addr} {xs : List V} {rows : List (List Nat)} (h : Each (NewRow H0 H) xs rows) (e : H tb = some (.lst xs)) (k : ∀ c o, c ≠ tb → H c = some o → H1 c = some o) : Each (NewRow H0 H1) xs rows :=
  ⟨h.len, fun i x hx => let ⟨b, eb, r1, r2⟩ := h.at_ i x hx; ⟨b, eb, k _ _ (row_ne e (List.mem_of_getElem? eb) r1) r1, r2⟩⟩
theorem rows_upd {H0 H : Hp} {xs : List V} {rows : List (List Nat)} {i : Nat} {b : Addr} {r : List Nat} (h : Each (NewRow H0 H) xs rows) (nd : xs.Nodup) (hb : xs[i]? = some (.ref b)) : Each (NewRow H0 (upd H b (.lst (nv r)))) xs (rows.set i r) := by
  have hi : i < xs.length := (List.getElem?_eq_some_iff.mp hb).1
  refine ⟨by rw [List.length_set]; exact h.len, fun j x hx => ?_⟩
  rw [List.getElem?_set] at hx
  by_cases c : i = j
  · subst c
    rw [if_pos rfl, if_pos (by rw [← h.len]; exact hi)] at hx
    obtain rfl : r = x := Option.some.inj hx
    obtain ⟨b2, eb2, _, f⟩ := h.at_ i _ (List.getElem?_eq_getElem (by rw [← h.len]; exact hi))
    rw [hb] at eb2
    obtain rfl : b = b2 := V.ref.inj (Option.some.inj eb2)
    exact ⟨b, hb, upd_same, f⟩
  · rw [if_neg c] at hx
    obtain ⟨b2, eb2, t2, f⟩ := h.at_ j x hx
    refine ⟨b2, eb2, ?_, f⟩
    unfold TextAt
    rw [upd_ne]
    · exact t2
    · rintro rfl
      exact c ((List.getElem?_inj hi nd).mp (hb.trans eb2.symm))
theorem nodup_snoc {xs : List V} {x : V} (h : xs.Nodup) (n : x ∉ xs) : (xs ++ [x]).Nodup := by
  rw [List.nodup_append]
  exact ⟨h, by simp, fun a ha b hb z => n (by rw [← List.mem_singleton.mp hb, ← z]; exact ha)⟩
theorem new_not_row {H0 H : Hp} {xs : List V} {rows : List (List Nat)} {c : Addr} (h : Each (NewRow H0 H) xs rows) (hc : H c = none) : V.ref c ∉ xs := fun hm => by
  obtain ⟨i, hi⟩ := List.mem_iff_getElem?.mp hm
  obtain ⟨b, x, e, _, t, _⟩ := h.get hi
  obtain rfl : c = b := V.ref.inj e
  unfold TextAt at t
  rw [hc] at t
  cases t
/-- what the cars up to j give -/
def carsUp (n : Vbtoad.Net) (j p q : Nat) : Nat := (n.cars.take j).foldl (fun m c => if c.from_ = p ∧ c.to_ = q then min m c.long else m) (if p = q then 0 else NEVER)
theorem carsUp_all (n : Vbtoad.Net) : (fun p q => carsUp n n.cars.length p q) = fun p q => T n 0 p q := by
  funext p q
  unfold carsUp
  rw [List.take_length]
  rfl
theorem carsUp_succ {n : Vbtoad.Net} {j : Nat} {c : Vbtoad.Car} (h : n.cars[j]? = some c) (p q : Nat) : carsUp n (j + 1) p q = if c.from_ = p ∧ c.to_ = q then min (carsUp n j p q) c.long else carsUp n j p q := by
  unfold carsUp
  rw [List.take_add_one, h, List.foldl_append]
  rfl
section
variable {P : Program} {w : World} {K : PySem.W.Frag} {mg : Str → Option Value} {base : Heap}
def sp_single_cars_table (K : PySem.W.Frag) : Sp := fun vs H Q _ => ∃ (S : List Addr) (na : Addr) (n : Vbtoad.Net), vs = [.ref na] ∧ NetAt K S H na n ∧ WF n ∧ ∀ p H1, Same H H1 → TabNew H H1 p (rowsOf n.places.length (T n 0)) → Q (.ref p) H1
theorem sc_single_cars_table : FnScope ["net", "table", "place", "row", "car"] ["net"] d_single_cars_table.scope := ⟨rfl, rfl, rfl, by decide +kernel, rfl, by decide +kernel, by decide +kernel⟩
theorem ok_single_cars_table (T : Fx K mg base) : Fn0 P w K mg base 1 "single_cars_table" (sp_single_cars_table K) := by
  obtain ⟨fd, F⟩ := F_single_cars_table T
  refine ⟨⟨_, fd, ["net"], F.ok sc_single_cars_table (fun vs H Q E h => ?_) (fun cdv A outer s H vs Q E hr h => ⟨_, PSs.nox (pss_cons (ps_set (i := 1) sc_single_cars_table.nd rfl (Or.inl rfl) (pe_lst (pa_nil))) (pss_cons (ps_for PassesOwn.never rfl (pi_range1 (by rfl) (b_range T) (pa_cons (pe_callB call_len_seq (by rfl) (b_len T) (by decide +kernel) (pa_cons (pe_fld (pv 0) rfl) pa_nil)) pa_nil)) (pg_name (i := 2) sc_single_cars_table.nd rfl (Or.inl rfl)) (pss_cons (ps_set (i := 3) sc_single_cars_table.nd rfl (Or.inl rfl) (pe_op op_rep (pe_lst (pa_cons (C8.pe_gc rfl (i_NEVER T)) pa_nil)) (pe_callB call_len_seq (by rfl) (b_len T) (by decide +kernel) (pa_cons (pe_fld (pv 0) rfl) pa_nil)))) (pss_cons (ps_asg (pe_int) (pg_sub (pv 3) (pv 2) set_list)) (pss_one (ps_expr (pe_bm PySem.F.plainAttrs_list PySem.F.slot_list_append PySem.F.type_list_append mt_append (pv 1) (pa_cons (pv 3) pa_nil))))))) (pss_cons (ps_for PassesOwn.never rfl (pi_list (pe_fld (pv 0) rfl)) (pg_name (i := 4) sc_single_cars_table.nd rfl (Or.inl rfl)) (pss_one (ps_asg (pe_callB (call_min2 rfl) (by rfl) (b_min T) (by decide +kernel) (pa_cons (pe_ix ix_list (pe_ix ix_list (pv 1) (pe_fld (pv 4) rfl) (fun _ _ => rfl)) (pe_fld (pv 4) rfl) (fun _ _ => rfl)) (pa_cons (pe_fld (pv 4) rfl) pa_nil))) (pg_sub (pe_ix ix_list (pv 1) (pe_fld (pv 4) rfl) (fun _ _ => rfl)) (pe_fld (pv 4) rfl) set_list)))) (pss_one (ps_ret (pv 1)))))), ?_⟩), g_single_cars_table T, F.kp, F.bindsN (fun _ _ _ _ _ _ us hl => match us, hl with | [_], _ => rfl)⟩⟩
  · obtain ⟨S, na, n, rfl, _⟩ := h
    rfl
  · obtain ⟨S, na, n, rfl, hA, hW, q⟩ := h
    obtain ⟨lp, lc, ld, ⟨⟨⟨dn, en⟩, ea⟩, ⟨ps, ep, rp⟩, ⟨cs, ec, rc⟩, ⟨ds, ed, rd⟩⟩, _⟩ := id hA
    have m8 := hW.np
    refine ⟨Nat.zero_le _, fun tb ht => ?_⟩
    have s0 : Same H (upd H tb (.lst [])) := same_new ht
    refine ⟨_, rfl, na, _, dn, _, _, rfl, s0 _ _ en, c_Net T, n_Net_places T, rfl, lp, ps, rfl, .inl (SqL.of (s0 _ _ ep)), (ps.length : Int), rfl, by omega, by rw [rp.len]; omega, ?_⟩
    rw [rp.len, Int.toNat_natCast]
    refine for_it (walk_range (lo := 0) (n := n.places.length)) (fun i σ H1 => ∃ v2 v3 v4, σ = [some (.ref na), some (.ref tb), v2, v3, v4] ∧ Same H H1 ∧ ∃ xs, H1 tb = some (.lst xs) ∧ xs.Nodup ∧ Each (NewRow H H1) xs ((rowsOf n.places.length fun p q => carsUp n 0 p q).take i)) ⟨none, none, none, rfl, s0, [], upd_same, List.nodup_nil, Each.nil⟩ (fun _ _ _ _ _ => trivial) ?_ ?_
    · rintro i x σ H1 H2 hi ⟨v2, v3, v4, rfl, s1, xs, h1, nd, hE⟩ ⟨rfl, rfl⟩
      show gName 2 (V.int (0 + (i : Int))) _ _ _
      rw [Int.zero_add]
      refine ⟨by show 1 ≤ sizeLine; rw [sizeLine_eq]; omega, fun g hg => ?_⟩
      have s2 : Same H2 (upd H2 g (.lst [.int 1000000000])) := same_new hg
      refine ⟨_, rfl, na, _, dn, _, _, rfl, s2 _ _ (s1 _ _ en), c_Net T, n_Net_places T, rfl, lp, ps, rfl, .inl (SqL.of (s2 _ _ (s1 _ _ ep))), g, (ps.length : Int), [.int 1000000000], rfl, rfl, upd_same, by omega, by rw [rp.len]; omega, by rw [rp.len, Int.toNat_natCast, sizeLine_eq]; show 1 * _ ≤ _; omega, fun r hr => ?_⟩
      rw [rp.len, Int.toNat_natCast]
      have er : (List.replicate n.places.length [V.int 1000000000]).flatten = nv ((List.range n.places.length).map fun _ => NEVER) := by
        have e1 : (List.replicate n.places.length [V.int 1000000000]).flatten = List.replicate n.places.length (V.int 1000000000) := by
          rw [List.flatten_replicate_singleton]
        have e2 : (List.range n.places.length).map (fun _ => NEVER) = List.replicate n.places.length NEVER := by
          rw [List.map_const', List.length_range]
        rw [e1, e2]
        unfold nv
        rw [List.map_replicate]
        rfl
      rw [er]
      have s3 := s2.trans (same_new (o := .lst (nv ((List.range n.places.length).map fun _ => NEVER))) hr)
      have rtb : r ≠ tb := (ne_of_none (s2 _ _ h1) hr).symm
      refine ⟨_, rfl, _, rfl, r, _, (i : Int), i, rfl, rfl, upd_same, ixN_nat (by rw [nv_len, List.length_map, List.length_range]; exact hi), ?_⟩
      have erow : (nv ((List.range n.places.length).map fun _ => NEVER)).set i (.int 0) = nv ((List.range n.places.length).map fun q => carsUp n 0 i q) := by
        have := nv_set ((List.range n.places.length).map fun _ => NEVER) i 0
        rw [show (V.int 0) = V.int ((0 : Nat) : Int) from rfl, this, rangeMap_set]
        congr 1
        apply List.map_congr_left
        intro q _
        show (if q = i then 0 else NEVER) = if i = q then 0 else NEVER
        by_cases c : q = i
        · rw [if_pos c, if_pos c.symm]
        · rw [if_neg c, if_neg (fun z => c z.symm)]
      rw [erow]
      generalize hG : upd (upd (upd H2 g (.lst [.int 1000000000])) r (.lst (nv ((List.range n.places.length).map fun _ => NEVER)))) r (.lst (nv ((List.range n.places.length).map fun q => carsUp n 0 i q))) = G
      have sG : Same H2 G := fun c o e => by
        rw [← hG, upd_ne (ne_of_none (s2 _ _ e) hr)]
        exact s3 _ _ e
      have eG : G r = some (.lst (nv ((List.range n.places.length).map fun q => carsUp n 0 i q))) := by rw [← hG]; exact upd_same
      have hr2 : H2 r = none := s2.free hr
      refine ⟨_, rfl, .inl ⟨rfl, _, SqL.of (sG _ _ h1)⟩, _, rfl, tb, xs, .ref r, rfl, rfl, sG _ _ h1, small1000 (by rw [hE.len, List.length_take]; omega), ?_⟩
      refine ⟨_, _, _, rfl, same_upd ht (s1.trans sG), _, upd_same, nodup_snoc nd (new_not_row hE hr2), ?_⟩
      rw [List.take_add_one, rowsOf_get _ hi]
      have hE2 : Each (NewRow H G) xs _ := hE.mono fun _ _ z => ⟨sG _ _ z.1, z.2⟩
      have k : ∀ c o, c ≠ tb → G c = some o → (upd G tb (.lst (xs ++ [.ref r]))) c = some o := fun c o hc e => by
        rw [upd_ne hc]
        exact e
      exact (rows_keep hE2 (sG _ _ h1) k).snoc ⟨k _ _ rtb eG, s1.free hr2⟩
    · rintro σ H1 ⟨v2, v3, v4, rfl, s1, xs, h1, nd, hE⟩
      rw [List.take_of_length_le (by rw [rowsOf_len]; exact Nat.le_refl _)] at hE
      refine ⟨_, rfl, na, _, dn, _, _, rfl, s1 _ _ en, c_Net T, n_Net_cars T, rfl, lc, rfl, ⟨_, SqL.of (s1 _ _ ec)⟩, ?_⟩
      refine for_it (walk_list (xs := cs)) (fun j σ G => ∃ v2 v3 v4, σ = [some (.ref na), some (.ref tb), v2, v3, v4] ∧ Same H G ∧ G tb = some (.lst xs) ∧ Each (NewRow H G) xs (rowsOf n.places.length fun p q => carsUp n j p q)) ⟨_, _, _, rfl, s1, h1, hE⟩ (fun i σ G _ ⟨_, _, _, _, s2, _⟩ => SqL.of (s2 _ _ ec)) ?_ ?_
      · rintro j x σ G G1 hj ⟨u2, u3, u4, rfl, s2, h2, hE2⟩ ⟨rfl, hx⟩
        obtain ⟨b, c, rfl, hc, hb⟩ := rc.get hx
        obtain ⟨dc, sg, f1, _⟩ := hb.keep (Same.keeps s2)
        have C := hW.car c (List.mem_of_getElem? hc)
        obtain ⟨rb, erb, t1, fr⟩ := hE2.at_ c.from_ _ (rowsOf_get _ C.1)
        have rtb : rb ≠ tb := row_ne h2 (List.mem_of_getElem? erb) t1
        have val : atI (nv ((List.range n.places.length).map fun q => carsUp n j c.from_ q)) (c.to_ : Int) = some (.int (carsUp n j c.from_ c.to_ : Nat)) := atI_nat (by unfold nv; rw [List.getElem?_map, rangeMap_get _ C.2.1]; rfl)
        refine ⟨_, rfl, _, rfl, b, _, dc, _, _, rfl, f1, c_Car T, n_Car_origin T, rfl, tb, xs, (c.from_ : Int), .ref rb, rfl, rfl, SqL.of h2, atI_nat erb, _, rfl, b, _, dc, _, _, rfl, f1, c_Car T, n_Car_end T, rfl, rb, _, (c.to_ : Int), _, rfl, rfl, SqL.of t1, val, _, rfl, b, _, dc, _, _, rfl, f1, c_Car T, n_Car_minutes T, rfl, _, _, rfl, ?_⟩
        refine ⟨_, rfl, _, rfl, b, _, dc, _, _, rfl, f1, c_Car T, n_Car_origin T, rfl, tb, xs, (c.from_ : Int), .ref rb, rfl, rfl, SqL.of h2, atI_nat erb, _, rfl, b, _, dc, _, _, rfl, f1, c_Car T, n_Car_end T, rfl, rb, _, (c.to_ : Int), c.to_, rfl, rfl, t1, ixN_nat (by rw [nv_len, List.length_map, List.length_range]; exact C.2.1), ?_⟩
        have ev : (if (c.long : Int) < (carsUp n j c.from_ c.to_ : Int) then (c.long : Int) else (carsUp n j c.from_ c.to_ : Int)) = ((min (carsUp n j c.from_ c.to_) c.long : Nat) : Int) := by
          split <;> omega
        have er : (nv ((List.range n.places.length).map fun q => carsUp n j c.from_ q)).set c.to_ (.int (if (c.long : Int) < (carsUp n j c.from_ c.to_ : Int) then (c.long : Int) else (carsUp n j c.from_ c.to_ : Int))) = nv ((List.range n.places.length).map fun q => carsUp n (j + 1) c.from_ q) := by
          rw [ev, nv_set, rangeMap_set]
          congr 1
          apply List.map_congr_left
          intro q _
          show (if q = c.to_ then min (carsUp n j c.from_ c.to_) c.long else carsUp n j c.from_ q) = _
          rw [carsUp_succ hc]
          by_cases z : q = c.to_
          · rw [if_pos z, if_pos ⟨rfl, z.symm⟩, z]
          · rw [if_neg z, if_neg (fun y => z y.2.symm)]
        rw [er]
        refine ⟨_, _, _, rfl, same_upd fr s2, by rw [upd_ne rtb.symm]; exact h2, ?_⟩
        have := rows_upd (r := (List.range n.places.length).map fun q => carsUp n (j + 1) c.from_ q) hE2 nd erb
        rw [rowsOf_set] at this
        have e : (fun p q => if p = c.from_ then carsUp n (j + 1) c.from_ q else carsUp n j p q) = fun p q => carsUp n (j + 1) p q := by
          funext p q
          by_cases z : p = c.from_
          · rw [if_pos z, z]
          · rw [if_neg z, carsUp_succ hc, if_neg (fun y => z y.1.symm)]
        rw [e] at this
        exact this
      · rintro σ G ⟨u2, u3, u4, rfl, s2, h2, hE2⟩
        rw [rc.len, carsUp_all] at hE2
        exact ⟨_, rfl, q tb G s2 ⟨⟨xs, h2, hE2⟩, ht⟩⟩
end
end SJ
end
section
set_option Elab.async false
set_option linter.all false
set_option maxRecDepth 100000
set_option maxHeartbeats 4000000
/-! The defs of ways.py: ways. -/
namespace SJ
open PySem PySem.Spec PyProof.Rows L2
theorem shorter_range (m x : Nat) (f g : Nat → Nat) : shorter ((List.range m).map f) ((List.range m).map g) x = (List.range m).map fun q => min (f q) (x + g q) := by
  unfold shorter
  apply List.ext_getElem?
  intro i
  rw [List.getElem?_zipWith]
  by_cases hi : i < m
  · rw [rangeMap_get _ hi, rangeMap_get _ hi, rangeMap_get _ hi]
  · rw [List.getElem?_eq_none (by rw [List.length_map, List.length_range]; omega), List.getElem?_eq_none (by rw [List.length_map, List.length_range]; omega)]
    rw [List.getElem?_eq_none (by rw [List.length_map, List.length_range]; omega)]
theorem handling_is {n : Vbtoad.Net} {i : Nat} {p : Vbtoad.Place} (h : n.places[i]? = some p) : Vbtoad.handlingAt n i = p.handling := by
  unfold Vbtoad.handlingAt
  rw [h]
  rfl
section
variable {P : Program} {w : World} {K : PySem.W.Frag} {mg : Str → Option Value} {base : Heap}
def sp_coming_table (K : PySem.W.Frag) : Sp := fun vs H Q _ => ∃ (S : List Addr) (na : Addr) (n : Vbtoad.Net), vs = [.ref na] ∧ NetAt K S H na n ∧ WF n ∧ ∀ p H1, Same H H1 → TabNew H H1 p (rowsOf n.places.length (D n)) → Q (.ref p) H1
theorem sc_coming_table : FnScope ["net", "table", "between", "place", "onward", "row"] ["net"] d_coming_table.scope := ⟨rfl, rfl, rfl, by decide +kernel, rfl, by decide +kernel, by decide +kernel⟩
theorem ok_coming_table (T : Fx K mg base) : Fn0 P w K mg base 2 "coming_table" (sp_coming_table K) := by
  obtain ⟨fd, F⟩ := F_coming_table T
  refine ⟨⟨_, fd, ["net"], F.ok sc_coming_table (fun vs H Q E h => ?_) (fun cdv A outer s H vs Q E hr h => ⟨_, PSs.nox (pss_cons (ps_set (i := 1) sc_coming_table.nd rfl (Or.inl rfl) (pe_c0 (ok_single_cars_table T) hr (by decide) rfl (pa_cons (pv 0) pa_nil))) (pss_cons (ps_for PassesOwn.never rfl (pi_enum (by rfl) (b_enumerate T) (pa_cons (pe_fld (pv 0) rfl) pa_nil)) (pg_tup rfl (pgs_cons (pg_name (i := 2) sc_coming_table.nd rfl (Or.inr rfl)) (pgs_cons (pg_name (i := 3) sc_coming_table.nd rfl (Or.inr rfl)) pgs_nil))) (pss_cons (ps_set (i := 4) sc_coming_table.nd rfl (Or.inr rfl) (pe_ix ix_list (pv 1) (pv 2) (fun _ _ => rfl))) (pss_one (ps_setLc (i := 1) (own := [("row", 5)]) (by rfl) sc_coming_table.nd rfl rfl (sw_true rfl rfl rfl (by decide +kernel)) (pi_list (pv 1)) (blkOk_by (own := [("row", 5)]) (N := ["net", "table", "between", "place", "onward", "row"]) (sc := d_coming_table.scope) (by decide +kernel)) (fun _ _ _ _ _ => pg_name (i := 5) sc_coming_table.nd rfl (Or.inl rfl)) (fun _ _ _ _ _ => pts_nil) (fun _ _ _ _ _ => pe_c0 (ok_shorter_row T) hr (by decide) rfl (pa_cons (pv 5) (pa_cons (pe_op op_add (pe_ix (ix_listK (K := K) rfl) (pv 5) (pv 2) (fun _ _ => rfl)) (pe_fldK (K := K) rfl (pv 3) rfl)) (pa_cons (pv 4) pa_nil)))))))) (pss_one (ps_ret (pv 1))))), ?_⟩), g_coming_table T, F.kp, F.bindsN (fun _ _ _ _ _ _ us hl => match us, hl with | [_], _ => rfl)⟩⟩
  · obtain ⟨S, na, n, rfl, _⟩ := h
    rfl
  · obtain ⟨S, na, n, rfl, hA, hW, q⟩ := h
    obtain ⟨lp, lc, ld, ⟨⟨⟨dn, en⟩, ea⟩, ⟨ps, ep, rp⟩, ⟨cs, ec, rc⟩, ⟨ds, ed, rd⟩⟩, _⟩ := id hA
    have m8 := hW.np
    refine ⟨_, rfl, S, na, n, rfl, hA, hW, fun tb H1 s1 hT => ?_⟩
    refine ⟨_, rfl, na, _, dn, _, _, rfl, s1 _ _ en, c_Net T, n_Net_places T, rfl, lp, ps, rfl, SqL.of (s1 _ _ ep), ?_⟩
    refine for_it (walk_enum (xs := ps)) (fun i σ G => ∃ tb v2 v3 v4 v5, σ = [some (.ref na), some (.ref tb), v2, v3, v4, v5] ∧ Same H G ∧ TabNew H G tb (rowsOf n.places.length (SJ.T n i))) ⟨tb, _, _, _, _, rfl, s1, hT⟩ (fun i σ G _ ⟨_, _, _, _, _, _, s2, _⟩ => SqL.of (s2 _ _ ep)) ?_ ?_
    · rintro i x σ G G1 hi ⟨tb, v2, v3, v4, v5, rfl, s2, ⟨⟨xs, hx, hE⟩, hnew⟩⟩ ⟨tp, y, z, rfl, htp, rfl, hy, hz⟩
      obtain rfl := Option.some.inj hy
      obtain ⟨b, pl, rfl, hpl, hb⟩ := rp.get hz
      have s3 := same_new (o := .tup [.int (i : Nat), .ref b]) htp
      have him : i < n.places.length := by rw [← rp.len]; exact hi
      obtain ⟨ob, eob, to_, fo⟩ := hE.at_ i _ (rowsOf_get _ him)
      refine ⟨tp, _, rfl, SqT.of upd_same, rfl, _, _, rfl, _, _, rfl, rfl, ?_⟩
      refine ⟨_, rfl, _, rfl, tb, xs, (i : Int), .ref ob, rfl, rfl, SqL.of (s3 _ _ hx), atI_nat eob, ?_⟩
      have sa : Same H (upd G tp (.tup [.int (i : Nat), .ref b])) := s2.trans s3
      have hx1 := s3 _ _ hx
      have hE1 : Each (NewRow H (upd G tp (.tup [.int (i : Nat), .ref b]))) xs _ := hE.mono fun _ _ z => ⟨s3 _ _ z.1, z.2⟩
      have to1 : TextAt (upd G tp (.tup [.int (i : Nat), .ref b])) ob _ := s3 _ _ to_
      generalize upd G tp (.tup [.int (i : Nat), .ref b]) = G2 at sa hx1 hE1 to1 ⊢
      obtain ⟨dp, sg, f1, _⟩ := hb.keep (Same.keeps sa)
      refine ⟨_, rfl, tb, rfl, ⟨_, SqL.of hx1⟩, fun D hD => lc_it (walk_list (xs := xs)) (fun k G3 => Same G2 G3 ∧ ∃ ys, G3 D = some (.lst ys) ∧ Each (NewRow H G3) ys ((rowsOf n.places.length (SJ.T n (i + 1))).take k)) ⟨same_new hD, [], upd_same, Each.nil⟩ (fun k G3 _ h => SqL.of (h.1 _ _ hx1)) ?_ ?_⟩
      · rintro k v G3 G4 hk ⟨s4, ys, hys, hEy⟩ ⟨rfl, hv⟩
        obtain ⟨rb, row, rfl, hrow, tr, _⟩ := hE1.get hv
        have hkm : k < n.places.length := by
          have := hE1.len
          rw [rowsOf_len] at this
          omega
        rw [rowsOf_get _ hkm] at hrow
        obtain rfl := Option.some.inj hrow
        have val : atI (nv ((List.range n.places.length).map (SJ.T n i k))) (i : Int) = some (.int (SJ.T n i k i : Nat)) := atI_nat (by unfold nv; rw [List.getElem?_map, rangeMap_get _ him]; rfl)
        refine ⟨rfl, lcYes ⟨_, rfl, _, rfl, _, rfl, rb, _, (i : Int), _, rfl, rfl, SqL.of (s4 _ _ tr), val, _, rfl, b, _, dp, _, _, rfl, s4 _ _ f1, c_Place T, n_Place_handling T, rfl, _, _, rfl, rfl, _, rfl, ?_⟩⟩
        refine ⟨rb, ob, _, _, SJ.T n i k i + pl.handling, rfl, SqL.of (s4 _ _ tr), SqL.of (s4 _ _ to1), by rw [List.length_map, List.length_map], by rw [List.length_map, List.length_range]; omega, fun g G5 s5 ng hg => ?_⟩
        have gD : g ≠ D := (ne_of_none hys ng).symm
        have kk : ∀ c o, c ≠ D → G5 c = some o → (upd G5 D (.lst (ys ++ [.ref g]))) c = some o := fun c o hc e => by
          rw [upd_ne hc]
          exact e
        refine ⟨ys, s5 _ _ hys, small1000 (by rw [hEy.len, List.length_take, rowsOf_len]; omega), same_upd hD (s4.trans s5), _, upd_same, ?_⟩
        rw [List.take_add_one, rowsOf_get _ hkm]
        refine (rows_keep (hEy.mono fun _ _ z => ⟨s5 _ _ z.1, z.2⟩) (s5 _ _ hys) kk).snoc ⟨kk _ _ gD ?_, sa.free (s4.free ng)⟩
        unfold TextAt at hg
        rw [hg, shorter_range]
        congr 3
        apply List.map_congr_left
        intro p _
        show min (SJ.T n i k p) (SJ.T n i k i + pl.handling + SJ.T n i i p) = min (SJ.T n i k p) (SJ.T n i k i + Vbtoad.handlingAt n i + SJ.T n i i p)
        rw [handling_is hpl]
      · rintro G3 ⟨s4, ys, hys, hEy⟩
        rw [List.take_of_length_le (by rw [rowsOf_len]; have := hE1.len; rw [rowsOf_len] at this; omega)] at hEy
        exact ⟨D, _, _, _, _, rfl, sa.trans s4, ⟨⟨ys, hys, hEy⟩, sa.free hD⟩⟩
    · rintro σ G ⟨tb, v2, v3, v4, v5, rfl, s2, hT2⟩
      rw [rp.len] at hT2
      exact ⟨_, rfl, q tb G s2 hT2⟩
def sp_ready_table (K : PySem.W.Frag) : Sp := fun vs H Q _ => ∃ (S S' : List Addr) (na ca : Addr) (n : Vbtoad.Net), vs = [.ref na, .ref ca] ∧ NetAt K S H na n ∧ WF n ∧ TabAt S' H ca (rowsOf n.places.length (D n)) ∧ ∀ p H1, Same H H1 → TabNew H H1 p (rowsOf n.places.length (R n)) → Q (.ref p) H1
theorem sc_ready_table : FnScope ["net", "coming", "table", "origin", "minutes", "row", "end", "place"] ["net", "coming"] d_ready_table.scope := ⟨rfl, rfl, rfl, by decide +kernel, rfl, by decide +kernel, by decide +kernel⟩
theorem ok_ready_table (T : Fx K mg base) : Fn0 P w K mg base 1 "ready_table" (sp_ready_table K) := by
  obtain ⟨fd, F⟩ := F_ready_table T
  refine ⟨⟨_, fd, ["net", "coming"], F.ok sc_ready_table (fun vs H Q E h => ?_) (fun cdv A outer s H vs Q E hr h => ⟨_, PSs.nox (pss_cons (ps_set (i := 2) sc_ready_table.nd rfl (Or.inl rfl) (pe_lst (pa_nil))) (pss_cons (ps_for PassesOwn.never rfl (pi_enum (by rfl) (b_enumerate T) (pa_cons (pv 1) pa_nil)) (pg_tup rfl (pgs_cons (pg_name (i := 3) sc_ready_table.nd rfl (Or.inl rfl)) (pgs_cons (pg_name (i := 4) sc_ready_table.nd rfl (Or.inr rfl)) pgs_nil))) (pss_cons (ps_setLc (i := 5) (own := [("end", 6), ("place", 7)]) (by rfl) sc_ready_table.nd rfl rfl (sw_true rfl rfl rfl (by decide +kernel)) (pi_enum (by rfl) (b_enumerate T) (pa_cons (pe_fld (pv 0) rfl) pa_nil)) (blkOk_by (own := [("end", 6), ("place", 7)]) (N := ["net", "coming", "table", "origin", "minutes", "row", "end", "place"]) (sc := d_ready_table.scope) (by decide +kernel)) (fun _ _ _ _ _ => pg_tupK (K := K) (n := 2) rfl rfl (pgs_cons (pg_name (i := 6) sc_ready_table.nd rfl (Or.inl rfl)) (pgs_cons (pg_name (i := 7) sc_ready_table.nd rfl (Or.inl rfl)) pgs_nil))) (fun _ _ _ _ _ => pts_nil) (fun _ _ _ _ _ => pe_op op_add (pe_ix (ix_listK (K := K) rfl) (pv 4) (pv 6) (fun _ _ => rfl)) (pe_fldK (K := K) rfl (pv 7) rfl))) (pss_cons (ps_asg (pe_int) (pg_sub (pv 5) (pv 3) set_list)) (pss_one (ps_expr (pe_bm PySem.F.plainAttrs_list PySem.F.slot_list_append PySem.F.type_list_append mt_append (pv 2) (pa_cons (pv 5) pa_nil))))))) (pss_one (ps_ret (pv 2))))), ?_⟩), g_ready_table T, F.kp, F.bindsN (fun _ _ _ _ _ _ us hl => match us, hl with | [_, _], _ => rfl)⟩⟩
  · obtain ⟨S, S', na, ca, n, rfl, _⟩ := h
    rfl
  · obtain ⟨S, S', na, ca, n, rfl, hA, hW, ⟨xs, hca, _, hE⟩, q⟩ := h
    obtain ⟨lp, lc, ld, ⟨⟨⟨dn, en⟩, ea⟩, ⟨ps, ep, rp⟩, ⟨cs, ec, rc⟩, ⟨ds, ed, rd⟩⟩, _⟩ := id hA
    have m8 := hW.np
    refine ⟨Nat.zero_le _, fun tb ht => ?_⟩
    have s0 : Same H (upd H tb (.lst [])) := same_new ht
    refine ⟨_, rfl, ca, xs, rfl, SqL.of (s0 _ _ hca), ?_⟩
    refine for_it (walk_enum (xs := xs)) (fun i σ G => ∃ v3 v4 v5 v6 v7, σ = [some (.ref na), some (.ref ca), some (.ref tb), v3, v4, v5, v6, v7] ∧ Same H G ∧ ∃ ys, G tb = some (.lst ys) ∧ Each (NewRow H G) ys ((rowsOf n.places.length (R n)).take i)) ⟨_, _, _, _, _, rfl, s0, [], upd_same, Each.nil⟩ (fun i σ G _ ⟨_, _, _, _, _, _, s2, _⟩ => SqL.of (s2 _ _ hca)) ?_ ?_
    · rintro i x σ G G1 hi ⟨v3, v4, v5, v6, v7, rfl, s2, ys, hys, hEy⟩ ⟨tp, y, z, rfl, htp, rfl, hy, hz⟩
      obtain rfl := Option.some.inj hy
      obtain ⟨rb, row, rfl, hrow, tr, _⟩ := hE.get hz
      have him : i < n.places.length := by
        have := hE.len
        rw [rowsOf_len] at this
        omega
      rw [rowsOf_get _ him] at hrow
      obtain rfl := Option.some.inj hrow
      have s3 := same_new (o := .tup [.int (i : Nat), .ref rb]) htp
      refine ⟨tp, _, rfl, SqT.of upd_same, rfl, _, _, rfl, _, _, rfl, rfl, ?_⟩
      have sa : Same H (upd G tp (.tup [.int (i : Nat), .ref rb])) := s2.trans s3
      have hys1 := s3 _ _ hys
      have hEy1 : Each (NewRow H (upd G tp (.tup [.int (i : Nat), .ref rb]))) ys _ := hEy.mono fun _ _ z => ⟨s3 _ _ z.1, z.2⟩
      generalize upd G tp (.tup [.int (i : Nat), .ref rb]) = G2 at sa hys1 hEy1 ⊢
      refine ⟨_, rfl, na, _, dn, _, _, rfl, sa _ _ en, c_Net T, n_Net_places T, rfl, lp, ps, rfl, SqL.of (sa _ _ ep), fun D hD => lc_it (walk_enum (xs := ps)) (fun k G3 => Same G2 G3 ∧ G3 D = some (.lst (nv (((List.range n.places.length).map fun u => SJ.D n i u + Vbtoad.handlingAt n u).take k)))) ⟨same_new hD, upd_same⟩ (fun k G3 _ h => SqL.of (h.1 _ _ (sa _ _ ep))) ?_ ?_⟩
      · rintro k v G3 G4 hk ⟨s4, hD4⟩ ⟨tq, y, z, rfl, htq, rfl, hy, hz⟩
        obtain rfl := Option.some.inj hy
        obtain ⟨b, pl, rfl, hpl, hb⟩ := rp.get hz
        have hkm : k < n.places.length := by rw [← rp.len]; exact hk
        have s5 := same_new (o := .tup [.int (k : Nat), .ref b]) htq
        have sb := (sa.trans s4).trans s5
        obtain ⟨dp, sg, f1, _⟩ := hb.keep (Same.keeps sb)
        have val : atI (nv ((List.range n.places.length).map (SJ.D n i))) (k : Int) = some (.int (SJ.D n i k : Nat)) := atI_nat (by unfold nv; rw [List.getElem?_map, rangeMap_get _ hkm]; rfl)
        refine ⟨tq, _, rfl, SqT.of upd_same, rfl, _, _, rfl, _, _, rfl, rfl, rfl, lcYes ⟨_, rfl, _, rfl, rb, _, (k : Int), _, rfl, rfl, SqL.of (sb _ _ tr), val, _, rfl, b, _, dp, _, _, rfl, f1, c_Place T, n_Place_handling T, rfl, _, _, rfl, rfl, _, s5 _ _ hD4, ?_, same_upd hD (s4.trans s5), ?_⟩⟩
        · rw [nv_len, List.length_take]
          exact small1000 (by omega)
        · rw [upd_same, List.take_add_one, rangeMap_get _ hkm, nv_append, handling_is hpl]
          rfl
      · rintro G3 ⟨s4, hD4⟩
        rw [List.take_of_length_le (by rw [List.length_map, List.length_range, rp.len]; exact Nat.le_refl _)] at hD4
        have nD : D ≠ tb := (ne_of_none hys1 hD).symm
        refine ⟨_, rfl, _, rfl, D, _, (i : Int), i, rfl, rfl, hD4, ixN_nat (by rw [nv_len, List.length_map, List.length_range]; exact him), ?_⟩
        have er : (nv ((List.range n.places.length).map fun u => SJ.D n i u + Vbtoad.handlingAt n u)).set i (.int 0) = nv ((List.range n.places.length).map (R n i)) := by
          have := nv_set ((List.range n.places.length).map fun u => SJ.D n i u + Vbtoad.handlingAt n u) i 0
          rw [show (V.int 0) = V.int ((0 : Nat) : Int) from rfl, this, rangeMap_set]
          congr 1
          apply List.map_congr_left
          intro u _
          show (if u = i then 0 else SJ.D n i u + Vbtoad.handlingAt n u) = if i = u then 0 else SJ.D n i u + Vbtoad.handlingAt n u
          by_cases c : u = i
          · rw [if_pos c, if_pos c.symm]
          · rw [if_neg c, if_neg (fun z => c z.symm)]
        rw [er]
        have s6 : Same G2 (upd G3 D (.lst (nv ((List.range n.places.length).map (R n i))))) := same_upd hD s4
        have e6 : (upd G3 D (.lst (nv ((List.range n.places.length).map (R n i))))) D = _ := upd_same
        generalize upd G3 D (.lst (nv ((List.range n.places.length).map (R n i)))) = G5 at s6 e6 ⊢
        refine ⟨_, rfl, .inl ⟨rfl, _, SqL.of (s6 _ _ hys1)⟩, _, rfl, tb, ys, .ref D, rfl, rfl, s6 _ _ hys1, small1000 (by rw [hEy.len, List.length_take, rowsOf_len]; omega), ?_⟩
        have kk : ∀ c o, c ≠ tb → G5 c = some o → (upd G5 tb (.lst (ys ++ [.ref D]))) c = some o := fun c o hc e => by
          rw [upd_ne hc]
          exact e
        refine ⟨_, _, _, _, _, rfl, same_upd ht (sa.trans s6), _, upd_same, ?_⟩
        rw [List.take_add_one, rowsOf_get _ him]
        exact (rows_keep (hEy1.mono fun _ _ z => ⟨s6 _ _ z.1, z.2⟩) (s6 _ _ hys1) kk).snoc ⟨kk _ _ nD e6, sa.free hD⟩
    · rintro σ G ⟨v3, v4, v5, v6, v7, rfl, s2, ys, hys, hEy⟩
      rw [List.take_of_length_le (by rw [rowsOf_len]; have := hE.len; rw [rowsOf_len] at this; omega)] at hEy
      exact ⟨_, rfl, q tb G s2 ⟨⟨ys, hys, hEy⟩, ht⟩⟩
end
end SJ
end
section
set_option Elab.async false
set_option linter.all false
set_option maxRecDepth 100000
set_option maxHeartbeats 4000000
/-! Ways and outlooks as objects; what's sure. -/
namespace SJ
open PySem PySem.Spec PyProof.Rows L2
section
variable (K : PySem.W.Frag) (S : List Addr) (H : Hp)
def WaysAt (a : Addr) (n : Vbtoad.Net) : Prop := ∃ dx ca ra, H a = some (.ins (He.ga K "Ways") dx [("coming", .ref ca), ("ready", .ref ra)]) ∧ a ∉ S ∧ TabAt S H ca (rowsOf n.places.length (D n)) ∧ TabAt S H ra (rowsOf n.places.length (R n))
/-- an outlook at a: its net, its ways, its goal; its worths lie in lists at wl -/
structure OutIs (a na wa wl : Addr) (n : Vbtoad.Net) (d : Nat) (ws : List (List Nat)) : Prop where
  own : (∃ dx, H a = some (.ins (He.ga K "Outlook") dx [("net", .ref na), ("ways", .ref wa), ("goal", .int (d : Nat)), ("worths", .ref wl)])) ∧ a ∉ S
  net : NetAt K S H na n
  ways : WaysAt K S H wa n
  wf : WF n
  goal : d < n.places.length
  ls : ∃ xs, H wl = some (.lst xs) ∧ Each (TextAt H) xs ws
  lens : ∀ r ∈ ws, r.length = n.goes.length
def OutAt (a : Addr) (n : Vbtoad.Net) (d : Nat) (ws : List (List Nat)) : Prop := ∃ na wa wl, OutIs K S H a na wa wl n d ws
end
section
variable {K : PySem.W.Frag} {S : List Addr} {H H1 : Hp}
theorem WaysAt.keep {a : Addr} {n : Vbtoad.Net} (h : WaysAt K S H a n) (k : Keeps S H H1) : WaysAt K S H1 a n := let ⟨dx, ca, ra, e, i, t1, t2⟩ := h; ⟨dx, ca, ra, k _ _ i e, i, t1.keep k, t2.keep k⟩
theorem OutIs.same {a na wa wl : Addr} {n : Vbtoad.Net} {d : Nat} {ws : List (List Nat)} (h : OutIs K S H a na wa wl n d ws) (s : Same H H1) : OutIs K S H1 a na wa wl n d ws :=
  ⟨⟨let ⟨dx, e⟩ := h.own.1; ⟨dx, s _ _ e⟩, h.own.2⟩, h.net.same s, h.ways.keep (Same.keeps s), h.wf, h.goal, let ⟨xs, e, r⟩ := h.ls; ⟨xs, s _ _ e, r.mono fun _ _ z => s _ _ z⟩, h.lens⟩
theorem OutAt.same {a : Addr} {n : Vbtoad.Net} {d : Nat} {ws : List (List Nat)} (h : OutAt K S H a n d ws) (s : Same H H1) : OutAt K S H1 a n d ws := let ⟨na, wa, wl, i⟩ := h; ⟨na, wa, wl, i.same s⟩
theorem tab_get {a : Addr} {m p q : Nat} {f : Nat → Nat → Nat} (h : TabAt S H a (rowsOf m f)) (hp : p < m) (hq : q < m) : ∃ xs b, H a = some (.lst xs) ∧ atI xs (p : Int) = some (.ref b) ∧ H b = some (.lst (nv ((List.range m).map (f p)))) ∧ atI (nv ((List.range m).map (f p))) (q : Int) = some (.int (f p q : Nat)) := by
  obtain ⟨xs, e, _, r⟩ := h
  obtain ⟨b, eb, t, _⟩ := r.at_ p _ (rowsOf_get _ hp)
  exact ⟨xs, b, e, atI_nat eb, t, atI_nat (by unfold nv; rw [List.getElem?_map, rangeMap_get _ hq]; rfl)⟩
end
section
variable {P : Program} {w : World} {K : PySem.W.Frag} {mg : Str → Option Value} {base : Heap}
def sp_Ways_init (K : PySem.W.Frag) : Sp := fun vs H Q _ => ∃ (S : List Addr) (p dx na : Addr) (n : Vbtoad.Net), vs = [.ref p, .ref na] ∧ H p = some (.ins (He.ga K "Ways") dx []) ∧ p ∈ S ∧ NetAt K S H na n ∧ WF n ∧
  ∀ H1 ca ra, H1 p = some (.ins (He.ga K "Ways") dx [("coming", .ref ca), ("ready", .ref ra)]) → TabNew H H1 ca (rowsOf n.places.length (D n)) → TabNew H H1 ra (rowsOf n.places.length (R n)) → (∀ b o, b ≠ p → H b = some o → H1 b = some o) → Q .non H1
theorem sc_Ways_init : FnScope ["self", "net"] ["self", "net"] d_Ways_init.scope := ⟨rfl, rfl, rfl, by decide +kernel, rfl, by decide +kernel, by decide +kernel⟩
theorem ok_Ways_init (T : Fx K mg base) : Mk0 P w K mg base 3 "Ways" (sp_Ways_init K) := by
  obtain ⟨fd, F⟩ := F_Ways_init T
  refine ⟨⟨_, fd, ["self", "net"], m_Ways T, F.ok sc_Ways_init (fun vs H Q E h => ?_) (fun cdv A outer s H vs Q E hr h => ⟨_, PSs.nox (pss_cons (ps_fld (pv 0) (pe_c0 (ok_coming_table T) hr (by decide) rfl (pa_cons (pv 1) pa_nil)) rfl) (pss_one (ps_fld (pv 0) (pe_c0 (ok_ready_table T) hr (by decide) rfl (pa_cons (pv 1) (pa_cons (pe_fld (pv 0) rfl) pa_nil))) rfl))), ?_⟩), g_Ways T, F.bindsN (fun _ _ _ _ _ _ us hl => match us, hl with | [_, _], _ => rfl)⟩⟩
  · obtain ⟨S, p, dx, na, n, rfl, _⟩ := h
    rfl
  · obtain ⟨S, p, dx, na, n, rfl, hp, hm, hA, hW, q⟩ := h
    refine ⟨_, rfl, S, na, n, rfl, hA, hW, fun ca H1 s1 t1 => ⟨_, rfl, p, _, dx, _, rfl, s1 _ _ hp, c_Ways T, n_Ways_coming T, (by show 0 < 1000; decide), ?_⟩⟩
    have up : Used [p] H := fun c hc => by
      rw [List.mem_singleton.mp hc, hp]
      exact fun z => by cases z
    have k1 : Keeps S H1 (upd H1 p (.ins (He.ga K "Ways") dx [("coming", .ref ca)])) := keeps_upd hm
    have k2 : Keeps [p] H1 (upd H1 p (.ins (He.ga K "Ways") dx [("coming", .ref ca)])) := keeps_upd (by simp)
    have e2 : (upd H1 p (.ins (He.ga K "Ways") dx [("coming", .ref ca)])) p = some (.ins (He.ga K "Ways") dx [("coming", .ref ca)]) := upd_same
    refine ⟨_, rfl, _, rfl, p, _, dx, _, _, rfl, e2, c_Ways T, n_Ways_coming T, rfl, S, [p], na, ca, n, rfl, (hA.same s1).keep k1, hW, (t1.at_ up).keep k2, fun ra H3 s3 t3 => ?_⟩
    refine ⟨_, rfl, p, _, dx, _, rfl, s3 _ _ e2, c_Ways T, n_Ways_ready T, (by show 1 < 1000; decide), ?_⟩
    have k4 : Keeps [p] H3 (upd H3 p (.ins (He.ga K "Ways") dx [("coming", .ref ca), ("ready", .ref ra)])) := keeps_upd (by simp)
    have all : Keeps [p] H (upd H3 p (.ins (He.ga K "Ways") dx [("coming", .ref ca), ("ready", .ref ra)])) := (((Same.keeps s1).trans k2).trans (Same.keeps s3)).trans k4
    have tab : ∀ {a rows} {H5 : Hp}, TabNew H H5 a rows → Keeps [p] H5 (upd H3 p (.ins (He.ga K "Ways") dx [("coming", .ref ca), ("ready", .ref ra)])) → TabNew H (upd H3 p (.ins (He.ga K "Ways") dx [("coming", .ref ca), ("ready", .ref ra)])) a rows := by
      intro a rows H5 t k
      obtain ⟨⟨xs, e, r⟩, f⟩ := t
      exact ⟨⟨xs, k.at_ne (ne_of_none hp f).symm e, r.mono fun _ _ z => ⟨k.at_ne (ne_of_none hp z.2).symm z.1, z.2⟩⟩, f⟩
    have t3' : TabNew H H3 ra (rowsOf n.places.length (R n)) := by
      obtain ⟨⟨xs, e, r⟩, f⟩ := t3
      have fr : ∀ c, (upd H1 p (.ins (He.ga K "Ways") dx [("coming", .ref ca)])) c = none → H c = none := fun c hc => by
        have : c ≠ p := by
          rintro rfl
          rw [upd_same] at hc
          cases hc
        rw [upd_ne this] at hc
        exact s1.free hc
      exact ⟨⟨xs, e, r.mono fun _ _ z => ⟨z.1, fr _ z.2⟩⟩, fr _ f⟩
    exact q _ ca ra upd_same (tab t1 ((k2.trans (Same.keeps s3)).trans k4)) (tab t3' k4) fun b o hb e => all.at_ne hb e
/-! ## readings of an outlook -/
def sp_minute_there (K : PySem.W.Frag) : Sp := fun vs H Q _ => ∃ (S : List Addr) (a : Addr) (n : Vbtoad.Net) (d : Nat) (ws : List (List Nat)) (p c : Nat), vs = [.ref a, .int p, .int c] ∧ OutAt K S H a n d ws ∧ p < n.places.length ∧ Q (.int (thereM n d p c : Nat)) H
theorem sc_minute_there : FnScope ["outlook", "place", "comes"] ["outlook", "place", "comes"] d_minute_there.scope := ⟨rfl, rfl, rfl, by decide +kernel, rfl, by decide +kernel, by decide +kernel⟩
theorem ok_minute_there (T : Fx K mg base) : Fn0 P w K mg base 1 "minute_there" (sp_minute_there K) := by
  obtain ⟨fd, F⟩ := F_minute_there T
  refine ⟨⟨_, fd, ["outlook", "place", "comes"], F.ok sc_minute_there (fun vs H Q E h => ?_) (fun cdv A outer s H vs Q E hr h => ⟨_, PSs.nox (pss_cons (ps_if (pt_cmpR op_eq (pv 1) (pe_fld (pv 0) rfl) (nomark _)) (pss_one (ps_ret (pv 2))) (pss_nil)) (pss_one (ps_ret (pe_op op_add (pv 2) (pe_fld (pe_ix ix_list (pe_fld (pe_fld (pv 0) rfl) rfl) (pv 1) (fun _ _ => rfl)) rfl))))), ?_⟩), g_minute_there T, F.kp, F.bindsN (fun _ _ _ _ _ _ us hl => match us, hl with | [_, _, _], _ => rfl)⟩⟩
  · obtain ⟨S, a, n, d, ws, p, c, rfl, _⟩ := h
    rfl
  · obtain ⟨S, a, n, d, ws, p, c, rfl, ⟨na, wa, wl, hO⟩, hp, q⟩ := h
    obtain ⟨dx, e⟩ := hO.own.1
    obtain ⟨lp, lc, ld, ⟨⟨⟨dn, en⟩, ea⟩, ⟨ps, ep, rp⟩, _, _⟩, _⟩ := hO.net
    unfold thereM at q
    refine ⟨_, rfl, _, rfl, a, _, dx, _, _, rfl, e, c_Outlook T, n_Outlook_goal T, rfl, rfl, _, rfl, ?_⟩
    by_cases c1 : V.int ((p : Nat) : Int) = V.int ((d : Nat) : Int)
    · have c0 : p = d := by
        have := V.int.inj c1
        omega
      rw [if_pos c0] at q
      exact ifT (decide_eq_true c1) ⟨_, rfl, q⟩
    · rw [if_neg (fun z => c1 (by rw [z]))] at q
      obtain ⟨b, dp, sg, pl, x1, x2, x3, _⟩ := place_get rp hp
      rw [handling_is x2] at q
      exact ifF (decide_eq_false c1) ⟨_, rfl, _, rfl, a, _, dx, _, _, rfl, e, c_Outlook T, n_Outlook_net T, rfl, na, _, dn, _, _, rfl, en, c_Net T, n_Net_places T, rfl, _, rfl, lp, ps, (p : Int), .ref b, rfl, rfl, SqL.of ep, atI_nat x1, b, _, dp, _, _, rfl, x3, c_Place T, n_Place_handling T, rfl, _, _, rfl, rfl, q⟩
def sp_by_cars_alone (K : PySem.W.Frag) : Sp := fun vs H Q _ => ∃ (S : List Addr) (a : Addr) (n : Vbtoad.Net) (d : Nat) (ws : List (List Nat)) (t p : Nat), vs = [.ref a, .int t, .int p] ∧ OutAt K S H a n d ws ∧ p < n.places.length ∧ Q (.int (carsAlone n d p t : Nat)) H
theorem sc_by_cars_alone : FnScope ["outlook", "minute", "place"] ["outlook", "minute", "place"] d_by_cars_alone.scope := ⟨rfl, rfl, rfl, by decide +kernel, rfl, by decide +kernel, by decide +kernel⟩
theorem ok_by_cars_alone (T : Fx K mg base) : Fn0 P w K mg base 1 "by_cars_alone" (sp_by_cars_alone K) := by
  obtain ⟨fd, F⟩ := F_by_cars_alone T
  refine ⟨⟨_, fd, ["outlook", "minute", "place"], F.ok sc_by_cars_alone (fun vs H Q E h => ?_) (fun cdv A outer s H vs Q E hr h => ⟨_, PSs.nox (pss_one (ps_ret (pe_callB (call_min2 rfl) (by rfl) (b_min T) (by decide +kernel) (pa_cons (C8.pe_gc rfl (i_NEVER T)) (pa_cons (pe_op op_add (pv 1) (pe_ix ix_list (pe_ix ix_list (pe_fld (pe_fld (pv 0) rfl) rfl) (pv 2) (fun _ _ => rfl)) (pe_fld (pv 0) rfl) (fun _ _ => rfl))) pa_nil))))), ?_⟩), g_by_cars_alone T, F.kp, F.bindsN (fun _ _ _ _ _ _ us hl => match us, hl with | [_, _, _], _ => rfl)⟩⟩
  · obtain ⟨S, a, n, d, ws, t, p, rfl, _⟩ := h
    rfl
  · obtain ⟨S, a, n, d, ws, t, p, rfl, ⟨na, wa, wl, hO⟩, hp, q⟩ := h
    obtain ⟨dx, e⟩ := hO.own.1
    obtain ⟨dw, ca, ra, ew, _, t1, t2⟩ := hO.ways
    obtain ⟨xs, b, e1, e2, e3, e4⟩ := tab_get t1 hp hO.goal
    refine ⟨_, rfl, _, rfl, a, _, dx, _, _, rfl, e, c_Outlook T, n_Outlook_ways T, rfl, wa, _, dw, _, _, rfl, ew, c_Ways T, n_Ways_coming T, rfl, _, rfl, ca, xs, (p : Int), .ref b, rfl, rfl, SqL.of e1, e2, _, rfl, a, _, dx, _, _, rfl, e, c_Outlook T, n_Outlook_goal T, rfl, b, _, (d : Int), _, rfl, rfl, SqL.of e3, e4, _, _, rfl, rfl, _, _, rfl, ?_⟩
    have ev : (if (t : Int) + (D n p d : Int) < 1000000000 then (t : Int) + (D n p d : Int) else 1000000000) = ((carsAlone n d p t : Nat) : Int) := by
      unfold carsAlone NEVER
      split <;> omega
    rw [ev]
    exact q
def sp_departures_in_time (K : PySem.W.Frag) : Sp := fun vs H Q _ => ∃ (S : List Addr) (a : Addr) (n : Vbtoad.Net) (d : Nat) (ws : List (List Nat)) (t p : Nat), vs = [.ref a, .int t, .int p] ∧ OutAt K S H a n d ws ∧ p < n.places.length ∧ NewText H Q (inTime n p t)
theorem sc_departures_in_time : FnScope ["outlook", "minute", "place", "ready", "departures", "number", "other"] ["outlook", "minute", "place"] d_departures_in_time.scope := ⟨rfl, rfl, rfl, by decide +kernel, rfl, by decide +kernel, by decide +kernel⟩
theorem ok_departures_in_time (T : Fx K mg base) : Fn0 P w K mg base 1 "departures_in_time" (sp_departures_in_time K) := by
  obtain ⟨fd, F⟩ := F_departures_in_time T
  refine ⟨⟨_, fd, ["outlook", "minute", "place"], F.ok sc_departures_in_time (fun vs H Q E h => ?_) (fun cdv A outer s H vs Q E hr h => ⟨_, PSs.nox (pss_cons (ps_set (i := 3) sc_departures_in_time.nd rfl (Or.inr rfl) (pe_ix ix_list (pe_fld (pe_fld (pv 0) rfl) rfl) (pv 2) (fun _ _ => rfl))) (pss_cons (ps_set (i := 4) sc_departures_in_time.nd rfl (Or.inl rfl) (pe_fld (pe_fld (pv 0) rfl) rfl)) (pss_one (ps_ret (pe_lc (own := [("number", 5), ("other", 6)]) (by rfl) sc_departures_in_time.nd (pi_enum (by rfl) (b_enumerate T) (pa_cons (pv 4) pa_nil)) (blkOk_by (own := [("number", 5), ("other", 6)]) (N := ["outlook", "minute", "place", "ready", "departures", "number", "other"]) (sc := d_departures_in_time.scope) (by decide +kernel)) (fun _ _ _ _ _ => pg_tupK (K := K) (n := 2) rfl rfl (pgs_cons (pg_name (i := 5) sc_departures_in_time.nd rfl (Or.inl rfl)) (pgs_cons (pg_name (i := 6) sc_departures_in_time.nd rfl (Or.inl rfl)) pgs_nil))) (fun _ _ _ _ _ => pts_one (pt_cmpR op_le (pe_op op_add (pv 1) (pe_ix (ix_listK (K := K) rfl) (pv 3) (pe_fldK (K := K) rfl (pv 6) rfl) (fun _ _ => rfl))) (pe_fldK (K := K) rfl (pv 6) rfl) (nomark _))) (fun _ _ _ _ _ => pv 5)))))), ?_⟩), g_departures_in_time T, F.kp, F.bindsN (fun _ _ _ _ _ _ us hl => match us, hl with | [_, _, _], _ => rfl)⟩⟩
  · obtain ⟨S, a, n, d, ws, t, p, rfl, _⟩ := h
    rfl
  · obtain ⟨S, a, n, d, ws, t, p, rfl, ⟨na, wa, wl, hO⟩, hp, q⟩ := h
    obtain ⟨dx, e⟩ := hO.own.1
    obtain ⟨dw, ca, ra, ew, _, t1, t2⟩ := hO.ways
    obtain ⟨xs, b, e1, e2, e3, _⟩ := tab_get t2 hp hp
    obtain ⟨lp, lc, ld, ⟨⟨⟨dn, en⟩, ea⟩, _, _, ⟨ds, ed, rd⟩⟩, _⟩ := hO.net
    refine ⟨_, rfl, a, _, dx, _, _, rfl, e, c_Outlook T, n_Outlook_ways T, rfl, wa, _, dw, _, _, rfl, ew, c_Ways T, n_Ways_ready T, rfl, _, rfl, ra, xs, (p : Int), .ref b, rfl, rfl, SqL.of e1, e2, ?_⟩
    refine ⟨_, rfl, a, _, dx, _, _, rfl, e, c_Outlook T, n_Outlook_net T, rfl, na, _, dn, _, _, rfl, en, c_Net T, n_Net_departures T, rfl, ?_⟩
    refine ⟨_, rfl, ld, ds, rfl, SqL.of ed, fun Dl hD => lc_it (walk_enum (xs := ds)) (fun i H1 => Same H H1 ∧ H1 Dl = some (.lst (nv ((List.range i).filter fun i => (n.goes[i]?).any fun g => decide (t + R n p g.from_ ≤ g.dep))))) ⟨same_new hD, upd_same⟩ (fun i H1 _ h => SqL.of (h.1 _ _ ed)) ?_ ?_⟩
    · rintro i v H1 H2 hi ⟨s1, d1⟩ ⟨tp, y, z, rfl, htp, rfl, hy, hz⟩
      obtain rfl := Option.some.inj hy
      obtain ⟨gb, g, rfl, hg, hb⟩ := rd.get hz
      have s2 := same_new (o := .tup [.int (i : Nat), .ref gb]) htp
      have sb := s1.trans s2
      obtain ⟨dg, sg, f1, _⟩ := hb.keep (Same.keeps sb)
      have G := hO.wf.go g (List.mem_of_getElem? hg)
      have val : atI (nv ((List.range n.places.length).map (R n p))) (g.from_ : Int) = some (.int (R n p g.from_ : Nat)) := atI_nat (by unfold nv; rw [List.getElem?_map, rangeMap_get _ G.1]; rfl)
      refine ⟨tp, _, rfl, SqT.of upd_same, rfl, _, _, rfl, _, _, rfl, rfl, rfl, ⟨_, rfl, _, rfl, _, rfl, gb, _, dg, _, _, rfl, f1, c_Departure T, n_Departure_origin T, rfl, b, _, (g.from_ : Int), _, rfl, rfl, SqL.of (sb _ _ e3), val, _, _, rfl, rfl, _, rfl, gb, _, dg, _, _, rfl, f1, c_Departure T, n_Departure_leaves T, rfl, _, _, rfl, rfl, _, rfl, ?_⟩⟩
      have fl : (List.range (i + 1)).filter (fun i => (n.goes[i]?).any fun g => decide (t + R n p g.from_ ≤ g.dep)) = (List.range i).filter (fun i => (n.goes[i]?).any fun g => decide (t + R n p g.from_ ≤ g.dep)) ++ if t + R n p g.from_ ≤ g.dep then [i] else [] := by
        rw [List.range_succ, List.filter_append]
        congr 1
        rw [List.filter_cons, List.filter_nil, hg]
        show (if decide (t + R n p g.from_ ≤ g.dep) = true then [i] else []) = _
        by_cases z : t + R n p g.from_ ≤ g.dep
        · rw [if_pos z, if_pos (decide_eq_true z)]
        · rw [if_neg z, if_neg (by rw [decide_eq_false z]; exact Bool.false_ne_true)]
      by_cases c : (t : Int) + (R n p g.from_ : Int) ≤ (g.dep : Int)
      · refine ifT (decide_eq_true c) ⟨_, rfl, _, s2 _ _ d1, ?_, same_upd hD sb, ?_⟩
        · rw [nv_len]
          refine small1000 (Nat.le_trans (List.length_filter_le _ _) ?_)
          rw [List.length_range]
          have := hO.wf.ng
          have := rd.len
          omega
        · rw [upd_same, fl, if_pos (by omega), nv_append]
          rfl
      · refine ifF (decide_eq_false c) ⟨sb, ?_⟩
        rw [fl, if_neg (by omega), List.append_nil]
        exact s2 _ _ d1
    · rintro H1 ⟨s1, d1⟩
      rw [rd.len] at d1
      exact q Dl H1 s1 hD d1
end
end SJ
end
section
set_option Elab.async false
set_option linter.all false
set_option maxRecDepth 100000
set_option maxHeartbeats 4000000
/-! What's sure: the defs of outlooks.py that reckon it. -/
namespace SJ
open PySem PySem.Spec PyProof.Rows L2
section
variable {P : Program} {w : World} {K : PySem.W.Frag} {mg : Str → Option Value} {base : Heap}
theorem inTime_lt {n : Vbtoad.Net} {p t i : Nat} (h : i ∈ inTime n p t) : i < n.goes.length := by
  obtain ⟨g, hg, _⟩ := mem_inTime.mp h
  exact (List.getElem?_eq_some_iff.mp hg).1
theorem wAt_get {ws : List Nat} {i : Nat} (h : i < ws.length) : ws[i]? = some (wAt ws i) := by
  unfold wAt
  rw [List.getElem?_eq_getElem h]
  rfl
def sp_sure_from (K : PySem.W.Frag) : Sp := fun vs H Q _ => ∃ (S : List Addr) (a : Addr) (n : Vbtoad.Net) (d : Nat) (ws : List (List Nat)) (k t p : Nat) (row : List Nat), vs = [.ref a, .int (k : Nat), .int (t : Nat), .int (p : Nat)] ∧ OutAt K S H a n d ws ∧ ws[k]? = some row ∧ p < n.places.length ∧ ∀ H1, Same H H1 → Q (.int (sureM n d row p t : Nat)) H1
theorem sc_sure_from : FnScope ["outlook", "k", "minute", "place", "best", "number"] ["outlook", "k", "minute", "place"] d_sure_from.scope := ⟨rfl, rfl, rfl, by decide +kernel, rfl, by decide +kernel, by decide +kernel⟩
theorem ok_sure_from (T : Fx K mg base) : Fn0 P w K mg base 2 "sure_from" (sp_sure_from K) := by
  obtain ⟨fd, F⟩ := F_sure_from T
  refine ⟨⟨_, fd, ["outlook", "k", "minute", "place"], F.ok sc_sure_from (fun vs H Q E h => ?_) (fun cdv A outer s H vs Q E hr h => ⟨_, PSs.nox (pss_cons (ps_if (pt_cmpR op_eq (pv 3) (pe_fld (pv 0) rfl) (nomark _)) (pss_one (ps_ret (pv 2))) (pss_nil)) (pss_cons (ps_set (i := 4) sc_sure_from.nd rfl (Or.inl rfl) (pe_c0 (ok_by_cars_alone T) hr (by decide) rfl (pa_cons (pv 0) (pa_cons (pv 2) (pa_cons (pv 3) pa_nil))))) (pss_cons (ps_for PassesOwn.never rfl (pi_list (pe_c0 (ok_departures_in_time T) hr (by decide) rfl (pa_cons (pv 0) (pa_cons (pv 2) (pa_cons (pv 3) pa_nil))))) (pg_name (i := 5) sc_sure_from.nd rfl (Or.inl rfl)) (pss_one (ps_set (i := 4) sc_sure_from.nd rfl (Or.inl rfl) (pe_callB (call_min2 rfl) (by rfl) (b_min T) (by decide +kernel) (pa_cons (pv 4) (pa_cons (pe_ix ix_list (pe_ix ix_list (pe_fld (pv 0) rfl) (pv 1) (fun _ _ => rfl)) (pv 5) (fun _ _ => rfl)) pa_nil)))))) (pss_one (ps_ret (pv 4)))))), ?_⟩), g_sure_from T, F.kp, F.bindsN (fun _ _ _ _ _ _ us hl => match us, hl with | [_, _, _, _], _ => rfl)⟩⟩
  · obtain ⟨S, a, n, d, ws, k, t, p, row, rfl, _⟩ := h
    rfl
  · obtain ⟨S, a, n, d, ws, k, t, p, row, rfl, hA, hk, hp, q⟩ := h
    obtain ⟨na, wa, wl, hO⟩ := id hA
    obtain ⟨dx, e⟩ := hO.own.1
    obtain ⟨xs, ex, rx⟩ := hO.ls
    obtain ⟨rb, erb, trb⟩ := rx.at_ k row hk
    have hlen := hO.lens row (List.mem_of_getElem? hk)
    unfold sureM at q
    refine ⟨_, rfl, _, rfl, a, _, dx, _, _, rfl, e, c_Outlook T, n_Outlook_goal T, rfl, rfl, _, rfl, ?_⟩
    by_cases c1 : V.int ((p : Nat) : Int) = V.int ((d : Nat) : Int)
    · have c0 : p = d := by
        have := V.int.inj c1
        omega
      rw [if_pos c0] at q
      exact ifT (decide_eq_true c1) ⟨_, rfl, q H (Same.refl H)⟩
    · rw [if_neg (fun z => c1 (by rw [z]))] at q
      refine ifF (decide_eq_false c1) ⟨_, rfl, _, rfl, _, rfl, S, a, n, d, ws, t, p, rfl, hA, hp, ?_⟩
      refine ⟨_, rfl, _, rfl, _, rfl, S, a, n, d, ws, t, p, rfl, hA, hp, fun l H1 s1 nl hl => ?_⟩
      refine ⟨l, rfl, ⟨_, SqL.of hl⟩, for_it (walk_list (xs := nv (inTime n p t))) (fun i σ H2 => ∃ v, σ = [some (.ref a), some (.int (k : Nat)), some (.int (t : Nat)), some (.int (p : Nat)), some (.int (((inTime n p t).take i).foldl (fun b i => min b (wAt row i)) (carsAlone n d p t) : Nat)), v] ∧ H2 = H1) ⟨_, rfl, rfl⟩ (fun i σ H2 _ ⟨_, _, z⟩ => z ▸ SqL.of hl) ?_ ?_⟩
      · rintro i v σ H2 H3 hi ⟨v5, rfl, rfl⟩ ⟨rfl, hv⟩
        obtain ⟨m, hm, rfl⟩ := nv_get hv
        have ml := inTime_lt (List.mem_of_getElem? hm)
        have val : atI (nv row) (m : Int) = some (.int (wAt row m : Nat)) := atI_nat (by unfold nv; rw [List.getElem?_map, wAt_get (by rw [hlen]; exact ml)]; rfl)
        refine ⟨_, rfl, _, rfl, a, _, dx, _, _, rfl, s1 _ _ e, c_Outlook T, n_Outlook_worths T, rfl, _, rfl, wl, xs, (k : Int), .ref rb, rfl, rfl, SqL.of (s1 _ _ ex), atI_nat erb, _, rfl, rb, _, (m : Int), _, rfl, rfl, SqL.of (s1 _ _ trb), val, _, _, rfl, ?_⟩
        refine ⟨some (.int (m : Nat)), ?_, rfl⟩
        have ev : ∀ x y : Nat, (if (y : Int) < (x : Int) then (y : Int) else (x : Int)) = ((min x y : Nat) : Int) := fun x y => by split <;> omega
        rw [ev, List.take_add_one, hm, List.foldl_append]
        rfl
      · rintro σ H2 ⟨v5, rfl, rfl⟩
        rw [nv_len, List.take_length]
        exact ⟨_, rfl, q _ s1⟩
/-- the promise of a reckoning over a departure -/
def GoSp (K : PySem.W.Frag) (f : Vbtoad.Net → Nat → List (List Nat) → Nat → Vbtoad.Go → Option Nat) : Sp := fun vs H Q _ => ∃ (S : List Addr) (a b : Addr) (n : Vbtoad.Net) (d : Nat) (ws : List (List Nat)) (k : Nat) (g : Vbtoad.Go) (z : Nat), vs = [.ref a, .int (k : Nat), .ref b] ∧ OutAt K S H a n d ws ∧ g ∈ n.goes ∧ GoAt K S H b g ∧ f n d ws k g = some z ∧ ∀ H1, Same H H1 → Q (.int (z : Nat)) H1
def fGoes (n : Vbtoad.Net) (d : Nat) (ws : List (List Nat)) (k : Nat) (g : Vbtoad.Go) : Option Nat := (ws[k]?).map fun row => goesM n d row g
theorem sc_sure_if_it_goes : FnScope ["outlook", "k", "departure", "minute"] ["outlook", "k", "departure"] d_sure_if_it_goes.scope := ⟨rfl, rfl, rfl, by decide +kernel, rfl, by decide +kernel, by decide +kernel⟩
theorem ok_sure_if_it_goes (T : Fx K mg base) : Fn0 P w K mg base 3 "sure_if_it_goes" (GoSp K fGoes) := by
  obtain ⟨fd, F⟩ := F_sure_if_it_goes T
  refine ⟨⟨_, fd, ["outlook", "k", "departure"], F.ok sc_sure_if_it_goes (fun vs H Q E h => ?_) (fun cdv A outer s H vs Q E hr h => ⟨_, PSs.nox (pss_cons (ps_set (i := 3) sc_sure_if_it_goes.nd rfl (Or.inl rfl) (pe_c0 (ok_minute_there T) hr (by decide) rfl (pa_cons (pv 0) (pa_cons (pe_fld (pv 2) rfl) (pa_cons (pe_fld (pv 2) rfl) pa_nil))))) (pss_one (ps_ret (pe_c0 (ok_sure_from T) hr (by decide) rfl (pa_cons (pv 0) (pa_cons (pv 1) (pa_cons (pv 3) (pa_cons (pe_fld (pv 2) rfl) pa_nil)))))))), ?_⟩), g_sure_if_it_goes T, F.kp, F.bindsN (fun _ _ _ _ _ _ us hl => match us, hl with | [_, _, _], _ => rfl)⟩⟩
  · obtain ⟨S, a, b, n, d, ws, k, g, z, rfl, _⟩ := h
    rfl
  · obtain ⟨S, a, b, n, d, ws, k, g, z, rfl, hA, hg, ⟨dg, sg, f1, _⟩, hz, q⟩ := h
    obtain ⟨row, hrow, rfl⟩ := Option.map_eq_some_iff.mp hz
    obtain ⟨na, wa, wl, hO⟩ := id hA
    have G := hO.wf.go g hg
    refine ⟨_, rfl, _, rfl, b, _, dg, _, _, rfl, f1, c_Departure T, n_Departure_end T, rfl, _, rfl, b, _, dg, _, _, rfl, f1, c_Departure T, n_Departure_comes T, rfl, S, a, n, d, ws, g.to_, g.arr, rfl, hA, G.2.1, ?_⟩
    exact ⟨_, rfl, _, rfl, _, rfl, _, rfl, b, _, dg, _, _, rfl, f1, c_Departure T, n_Departure_end T, rfl, S, a, n, d, ws, k, _, g.to_, row, rfl, hA, hrow, G.2.1, q⟩
def fCanc (n : Vbtoad.Net) (d : Nat) (ws : List (List Nat)) (k : Nat) (g : Vbtoad.Go) : Option Nat := match k with
  | 0 => none
  | k + 1 => (ws[k]?).map fun row => sureM n d row g.from_ (g.dep + 1)
theorem sc_sure_if_cancelled : FnScope ["outlook", "k", "departure"] ["outlook", "k", "departure"] d_sure_if_cancelled.scope := ⟨rfl, rfl, rfl, by decide +kernel, rfl, by decide +kernel, by decide +kernel⟩
theorem ok_sure_if_cancelled (T : Fx K mg base) : Fn0 P w K mg base 3 "sure_if_cancelled" (GoSp K fCanc) := by
  obtain ⟨fd, F⟩ := F_sure_if_cancelled T
  refine ⟨⟨_, fd, ["outlook", "k", "departure"], F.ok sc_sure_if_cancelled (fun vs H Q E h => ?_) (fun cdv A outer s H vs Q E hr h => ⟨_, PSs.nox (pss_one (ps_ret (pe_c0 (ok_sure_from T) hr (by decide) rfl (pa_cons (pv 0) (pa_cons (pe_op op_sub (pv 1) (pe_int)) (pa_cons (pe_op op_add (pe_fld (pv 2) rfl) (pe_int)) (pa_cons (pe_fld (pv 2) rfl) pa_nil))))))), ?_⟩), g_sure_if_cancelled T, F.kp, F.bindsN (fun _ _ _ _ _ _ us hl => match us, hl with | [_, _, _], _ => rfl)⟩⟩
  · obtain ⟨S, a, b, n, d, ws, k, g, z, rfl, _⟩ := h
    rfl
  · obtain ⟨S, a, b, n, d, ws, k, g, z, rfl, hA, hg, ⟨dg, sg, f1, _⟩, hz, q⟩ := h
    cases k with
    | zero => cases hz
    | succ k =>
      obtain ⟨row, hrow, rfl⟩ := Option.map_eq_some_iff.mp hz
      obtain ⟨na, wa, wl, hO⟩ := id hA
      have G := hO.wf.go g hg
      have e1 : ((k + 1 : Nat) : Int) - 1 = (k : Int) := by omega
      refine ⟨_, rfl, _, rfl, _, _, rfl, rfl, _, rfl, b, _, dg, _, _, rfl, f1, c_Departure T, n_Departure_leaves T, rfl, _, _, rfl, rfl, _, rfl, b, _, dg, _, _, rfl, f1, c_Departure T, n_Departure_origin T, rfl, S, a, n, d, ws, k, g.dep + 1, g.from_, row, ?_, hA, hrow, G.1, q⟩
      show [V.ref a, V.int (((k + 1 : Nat) : Int) - 1), V.int ((g.dep : Int) + 1), V.int (g.from_ : Int)] = _
      rw [e1]
      rfl
def fWorth (n : Vbtoad.Net) (d : Nat) (ws : List (List Nat)) (k : Nat) (g : Vbtoad.Go) : Option Nat := match k with
  | 0 => (ws[0]?).map fun row => worthM n d none row g
  | k + 1 => (ws[k]?).bind fun us => (ws[k + 1]?).map fun row => worthM n d (some us) row g
theorem sc_worth_of : FnScope ["outlook", "k", "departure"] ["outlook", "k", "departure"] d_worth_of.scope := ⟨rfl, rfl, rfl, by decide +kernel, rfl, by decide +kernel, by decide +kernel⟩
theorem ok_worth_of (T : Fx K mg base) : Fn0 P w K mg base 4 "worth_of" (GoSp K fWorth) := by
  obtain ⟨fd, F⟩ := F_worth_of T
  refine ⟨⟨_, fd, ["outlook", "k", "departure"], F.ok sc_worth_of (fun vs H Q E h => ?_) (fun cdv A outer s H vs Q E hr h => ⟨_, PSs.nox (pss_cons (ps_if (pt_cmpR op_eq (pv 1) (pe_int) (nomark _)) (pss_one (ps_ret (pe_c0 (ok_sure_if_it_goes T) hr (by decide) rfl (pa_cons (pv 0) (pa_cons (pv 1) (pa_cons (pv 2) pa_nil)))))) (pss_nil)) (pss_one (ps_ret (pe_callB (call_max2 rfl) (by rfl) (b_max T) (by decide +kernel) (pa_cons (pe_c0 (ok_sure_if_it_goes T) hr (by decide) rfl (pa_cons (pv 0) (pa_cons (pv 1) (pa_cons (pv 2) pa_nil)))) (pa_cons (pe_c0 (ok_sure_if_cancelled T) hr (by decide) rfl (pa_cons (pv 0) (pa_cons (pv 1) (pa_cons (pv 2) pa_nil)))) pa_nil)))))), ?_⟩), g_worth_of T, F.kp, F.bindsN (fun _ _ _ _ _ _ us hl => match us, hl with | [_, _, _], _ => rfl)⟩⟩
  · obtain ⟨S, a, b, n, d, ws, k, g, z, rfl, _⟩ := h
    rfl
  · obtain ⟨S, a, b, n, d, ws, k, g, z, rfl, hA, hg, hb, hz, q⟩ := h
    cases k with
    | zero =>
      obtain ⟨row, hrow, rfl⟩ := Option.map_eq_some_iff.mp hz
      refine ⟨_, rfl, rfl, _, rfl, ?_⟩
      refine ifT (decide_eq_true rfl) ⟨_, rfl, _, rfl, _, rfl, S, a, b, n, d, ws, 0, g, _, rfl, hA, hg, hb, ?_, q⟩
      unfold fGoes
      rw [hrow]
      rfl
    | succ k =>
      obtain ⟨us, hus, hz⟩ := Option.bind_eq_some_iff.mp hz
      obtain ⟨row, hrow, rfl⟩ := Option.map_eq_some_iff.mp hz
      refine ⟨_, rfl, rfl, _, rfl, ?_⟩
      refine ifF (decide_eq_false fun z => by have := V.int.inj z; omega) ⟨_, rfl, _, rfl, _, rfl, S, a, b, n, d, ws, k + 1, g, goesM n d row g, rfl, hA, hg, hb, ?_, fun H1 s1 => ?_⟩
      · unfold fGoes
        rw [hrow]
        rfl
      · refine ⟨_, rfl, _, rfl, _, rfl, S, a, b, n, d, ws, k + 1, g, sureM n d us g.from_ (g.dep + 1), rfl, hA.same s1, hg, hb.keep (Same.keeps s1), ?_, fun H2 s2 => ⟨_, _, rfl, ?_⟩⟩
        · show (ws[k]?).map _ = _
          rw [hus]
          rfl
        · have ev : ∀ x y : Nat, (if (y : Int) > (x : Int) then (y : Int) else (x : Int)) = ((max x y : Nat) : Int) := fun x y => by split <;> omega
          rw [ev]
          exact q H2 (s1.trans s2)
end
end SJ
end
section
set_option Elab.async false
set_option linter.all false
set_option maxRecDepth 100000
set_option maxHeartbeats 4000000
/-! What stays where lambdas are made: all but the tables of code objects. -/
namespace SJ
open PySem PySem.Spec PyProof.Rows L2 LamX
/-- all stays but what is in S, and tables -/
def Kp (S : List Addr) (H H1 : Hp) : Prop := ∀ b o, b ∉ S → H b = some o → (∀ ps, o ≠ .tbl ps) → H1 b = some o
/-- nothing that is known stands there -/
def Fresh (H : Hp) (p : Addr) : Prop := ∀ o, H p = some o → ∃ ps, o = .tbl ps
/-- only lists and instances change -/
def Kt (H H1 : Hp) : Prop := ∀ b o, H b = some o → (∀ xs, o ≠ .lst xs) → (∀ C dx fs, o ≠ .ins C dx fs) → H1 b = some o
/-- the addresses hold lists or instances -/
def Owned (S : List Addr) (H : Hp) : Prop := ∀ c ∈ S, (∃ xs, H c = some (.lst xs)) ∨ ∃ C dx fs, H c = some (.ins C dx fs)
section
variable {S S' : List Addr} {H H1 H2 : Hp} {p a : Addr} {o : HO}
theorem Kp.refl (S : List Addr) (H : Hp) : Kp S H H := fun _ _ _ h _ => h
theorem Kp.trans (x : Kp S H H1) (y : Kp S H1 H2) : Kp S H H2 := fun b o n h t => y b o n (x b o n h t) t
theorem Kp.mono (x : Kp S H H1) (h : ∀ b ∈ S, b ∈ S') : Kp S' H H1 := fun b o n e t => x b o (fun m => n (h b m)) e t
theorem Kp.same (x : Same H H1) : Kp S H H1 := fun b o _ e _ => x b o e
theorem Kp.keeps (x : Keeps S H H1) : Kp S H H1 := fun b o n e _ => x b o n e
theorem Kp.ext (x : ExtN H H1) : Kp S H H1 := fun b o _ e t => x b o e t
theorem Kp.upd (h : a ∈ S) : Kp S H (upd H a o) := Kp.keeps (keeps_upd h)
theorem Kp.new (h : H p = none) : Kp S H (L2.upd H p o) := Kp.same (same_new h)
theorem Kp.lst {xs : List V} (x : Kp S H H1) (e : H a = some (.lst xs)) (n : a ∉ S) : H1 a = some (.lst xs) := x a _ n e fun _ z => by cases z
theorem Kp.tup {xs : List V} (x : Kp S H H1) (e : H a = some (.tup xs)) (n : a ∉ S) : H1 a = some (.tup xs) := x a _ n e fun _ z => by cases z
theorem Kp.ins {C dx : Addr} {fs : List (Str × V)} (x : Kp S H H1) (e : H a = some (.ins C dx fs)) (n : a ∉ S) : H1 a = some (.ins C dx fs) := x a _ n e fun _ z => by cases z
theorem ExtN.lst {xs : List V} (x : ExtN H H1) (e : H a = some (.lst xs)) : H1 a = some (.lst xs) := x a _ e fun _ z => by cases z
theorem ExtN.ins {C dx : Addr} {fs : List (Str × V)} (x : ExtN H H1) (e : H a = some (.ins C dx fs)) : H1 a = some (.ins C dx fs) := x a _ e fun _ z => by cases z
theorem Kp.to_ext (x : Kp [] H H1) : ExtN H H1 := fun b o e t => x b o (by simp) e t
theorem Fresh.none (h : H p = none) : Fresh H p := fun o e => by rw [h] at e; cases e
theorem Fresh.back (x : Kp [] H H1) (h : Fresh H1 p) : Fresh H p := fun o e => by
  cases o with
  | tbl ps => exact ⟨ps, rfl⟩
  | _ =>
    have := x p _ (by simp) e (fun _ z => by cases z)
    exact h _ this
theorem Fresh.backs (x : Kp S H H1) (n : p ∉ S) (h : Fresh H1 p) : Fresh H p := fun o e => by
  cases o with
  | tbl ps => exact ⟨ps, rfl⟩
  | _ =>
    have := x p _ n e (fun _ z => by cases z)
    exact h _ this
theorem Fresh.ne (h : Fresh H p) (e : H a = some o) (t : ∀ ps, o ≠ .tbl ps) : a ≠ p := fun z => by
  subst z
  obtain ⟨ps, z⟩ := h o e
  exact t ps z
theorem Fresh.ne_lst {xs : List V} (h : Fresh H p) (e : H a = some (.lst xs)) : a ≠ p := h.ne e fun _ z => by cases z
theorem Fresh.ne_ins {C dx : Addr} {fs : List (Str × V)} (h : Fresh H p) (e : H a = some (.ins C dx fs)) : a ≠ p := h.ne e fun _ z => by cases z
theorem Owned.fresh (h : Owned S H) (f : Fresh H p) : p ∉ S := fun m => by
  rcases h p m with ⟨xs, e⟩ | ⟨C, dx, fs, e⟩
  · obtain ⟨ps, z⟩ := f _ e
    cases z
  · obtain ⟨ps, z⟩ := f _ e
    cases z
theorem Owned.ext (h : Owned S H) (x : Kp [] H H1) : Owned S H1 := fun c m => by
  rcases h c m with ⟨xs, e⟩ | ⟨C, dx, fs, e⟩
  · exact .inl ⟨xs, x.lst e (by simp)⟩
  · exact .inr ⟨C, dx, fs, x.ins e (by simp)⟩
theorem Owned.nil : Owned [] H := fun c m => absurd m (by simp)
theorem Owned.cons_lst {xs : List V} (e : H a = some (.lst xs)) (h : Owned S H) : Owned (a :: S) H := fun c m => by
  rcases List.mem_cons.mp m with rfl | m
  · exact .inl ⟨xs, e⟩
  · exact h c m
theorem Owned.cons_ins {C dx : Addr} {fs : List (Str × V)} (e : H a = some (.ins C dx fs)) (h : Owned S H) : Owned (a :: S) H := fun c m => by
  rcases List.mem_cons.mp m with rfl | m
  · exact .inr ⟨C, dx, fs, e⟩
  · exact h c m
theorem Kt.same (x : Same H H1) : Kt H H1 := fun b o e _ _ => x b o e
theorem Kt.refl (H : Hp) : Kt H H := fun _ _ e _ _ => e
theorem Kt.trans (x : Kt H H1) (y : Kt H1 H2) : Kt H H2 := fun b o e h1 h2 => y b o (x b o e h1 h2) h1 h2
theorem Kt.keeps (x : Keeps S H H1) (w : Owned S H) : Kt H H1 := fun b o e h1 h2 => x b o (fun m => by
  rcases w b m with ⟨xs, z⟩ | ⟨C, dx, fs, z⟩
  · rw [e] at z
    exact h1 xs (Option.some.inj z)
  · rw [e] at z
    exact h2 C dx fs (Option.some.inj z)) e
theorem Kt.upd_lst {xs : List V} (e : H a = some (.lst xs)) : Kt H (L2.upd H a o) := Kt.keeps (S := [a]) (keeps_upd (by simp)) (Owned.cons_lst e Owned.nil)
theorem Kt.upd_ins {C dx : Addr} {fs : List (Str × V)} (e : H a = some (.ins C dx fs)) : Kt H (L2.upd H a o) := Kt.keeps (S := [a]) (keeps_upd (by simp)) (Owned.cons_ins e Owned.nil)
end
theorem tabs_kt {T : List (Addr × Str)} {H H1 : Hp} (t : Tabs T H) (k : Kt H H1) : Tabs T H1 := fun p hp => by
  obtain ⟨ps, h1, h2, h3⟩ := t p hp
  refine ⟨ps, k _ _ h1 (fun _ z => by cases z) (fun _ _ _ z => by cases z), h2, fun pos cv hc => ?_⟩
  obtain ⟨c, e1, e2⟩ := h3 pos cv hc
  exact ⟨c, e1, k _ _ e2 (fun _ z => by cases z) (fun _ _ _ z => by cases z)⟩
section
variable {K : PySem.W.Frag} {S S' : List Addr} {H H1 : Hp}
theorem PlaceAt.kp {b : Addr} {p : Vbtoad.Place} (h : PlaceAt K S H b p) (k : Kp S H H1) : PlaceAt K S H1 b p := let ⟨dx, sg, e1, e2, e3, e4⟩ := h; ⟨dx, sg, k.ins e1 e2, e2, k.lst e3 e4, e4⟩
theorem CarAt.kp {b : Addr} {p : Vbtoad.Car} (h : CarAt K S H b p) (k : Kp S H H1) : CarAt K S H1 b p := let ⟨dx, sg, e1, e2, e3, e4⟩ := h; ⟨dx, sg, k.ins e1 e2, e2, k.lst e3 e4, e4⟩
theorem GoAt.kp {b : Addr} {p : Vbtoad.Go} (h : GoAt K S H b p) (k : Kp S H H1) : GoAt K S H1 b p := let ⟨dx, sg, e1, e2, e3, e4⟩ := h; ⟨dx, sg, k.ins e1 e2, e2, k.lst e3 e4, e4⟩
theorem NetAt.kp {a : Addr} {n : Vbtoad.Net} (h : NetAt K S H a n) (k : Kp S H H1) : NetAt K S H1 a n := by
  obtain ⟨lp, lc, ld, ⟨⟨⟨dx, e⟩, ea⟩, ⟨ps, ep, rp⟩, ⟨cs, ec, rc⟩, ⟨ds, ed, rd⟩⟩, h1, h2, h3⟩ := h
  exact ⟨lp, lc, ld, ⟨⟨⟨dx, k.ins e ea⟩, ea⟩, ⟨ps, k.lst ep h1, rp.mono fun _ _ z => z.kp k⟩, ⟨cs, k.lst ec h2, rc.mono fun _ _ z => z.kp k⟩, ⟨ds, k.lst ed h3, rd.mono fun _ _ z => z.kp k⟩⟩, h1, h2, h3⟩
/-- with more addresses that may change, at which nothing known stands -/
theorem NetAt.fresh {N : List Addr} {a : Addr} {n : Vbtoad.Net} (h : NetAt K S H a n) (f : ∀ c ∈ N, Fresh H c) : NetAt K (N ++ S) H a n := by
  have ni : ∀ {c : Addr} {o : HO}, H c = some o → (∀ ps, o ≠ .tbl ps) → c ∉ S → c ∉ N ++ S := fun {c o} e t hc m => by
    rcases List.mem_append.mp m with m | m
    · exact (f c m).ne e t rfl
    · exact hc m
  have il : ∀ {c : Addr} {xs : List V}, H c = some (.lst xs) → c ∉ S → c ∉ N ++ S := fun e => ni e fun _ z => by cases z
  have ii : ∀ {c C dx : Addr} {fs : List (Str × V)}, H c = some (.ins C dx fs) → c ∉ S → c ∉ N ++ S := fun e => ni e fun _ z => by cases z
  obtain ⟨lp, lc, ld, ⟨⟨⟨dx, e⟩, ea⟩, ⟨ps, ep, rp⟩, ⟨cs, ec, rc⟩, ⟨ds, ed, rd⟩⟩, h1, h2, h3⟩ := h
  refine ⟨lp, lc, ld, ⟨⟨⟨dx, e⟩, ii e ea⟩, ⟨ps, ep, rp.mono fun _ _ z => ?_⟩, ⟨cs, ec, rc.mono fun _ _ z => ?_⟩, ⟨ds, ed, rd.mono fun _ _ z => ?_⟩⟩, il ep h1, il ec h2, il ed h3⟩
  · obtain ⟨dx, sg, e1, e2, e3, e4⟩ := z
    exact ⟨dx, sg, e1, ii e1 e2, e3, il e3 e4⟩
  · obtain ⟨dx, sg, e1, e2, e3, e4⟩ := z
    exact ⟨dx, sg, e1, ii e1 e2, e3, il e3 e4⟩
  · obtain ⟨dx, sg, e1, e2, e3, e4⟩ := z
    exact ⟨dx, sg, e1, ii e1 e2, e3, il e3 e4⟩
theorem TabAt.kp {a : Addr} {rows : List (List Nat)} (h : TabAt S H a rows) (k : Kp S H H1) : TabAt S H1 a rows := let ⟨xs, e, n, r⟩ := h; ⟨xs, k.lst e n, n, r.mono fun _ _ z => ⟨k.lst z.1 z.2, z.2⟩⟩
theorem TabAt.fresh {N : List Addr} {a : Addr} {rows : List (List Nat)} (h : TabAt S H a rows) (f : ∀ c ∈ N, Fresh H c) : TabAt (N ++ S) H a rows := by
  have il : ∀ {c : Addr} {xs : List V}, H c = some (.lst xs) → c ∉ S → c ∉ N ++ S := fun {c xs} e hc m => by
    rcases List.mem_append.mp m with m | m
    · exact (f c m).ne_lst e rfl
    · exact hc m
  obtain ⟨xs, e, n, r⟩ := h
  exact ⟨xs, e, il e n, r.mono fun _ _ z => ⟨z.1, il z.1 z.2⟩⟩
theorem WaysAt.kp {a : Addr} {n : Vbtoad.Net} (h : WaysAt K S H a n) (k : Kp S H H1) : WaysAt K S H1 a n := let ⟨dx, ca, ra, e, i, t1, t2⟩ := h; ⟨dx, ca, ra, k.ins e i, i, t1.kp k, t2.kp k⟩
theorem WaysAt.fresh {N : List Addr} {a : Addr} {n : Vbtoad.Net} (h : WaysAt K S H a n) (f : ∀ c ∈ N, Fresh H c) : WaysAt K (N ++ S) H a n := by
  obtain ⟨dx, ca, ra, e, i, t1, t2⟩ := h
  refine ⟨dx, ca, ra, e, fun m => ?_, t1.fresh f, t2.fresh f⟩
  rcases List.mem_append.mp m with m | m
  · exact (f a m).ne_ins e rfl
  · exact i m
/-- an outlook of which nothing will change -/
structure OutSt (K : PySem.W.Frag) (S : List Addr) (H : Hp) (a : Addr) (n : Vbtoad.Net) (d : Nat) (ws : List (List Nat)) : Prop where
  ex : ∃ na wa wl, OutIs K S H a na wa wl n d ws ∧ wl ∉ S ∧ ∀ xs, H wl = some (.lst xs) → ∀ v ∈ xs, ∀ b, v = .ref b → b ∉ S
theorem OutSt.at_ {a : Addr} {n : Vbtoad.Net} {d : Nat} {ws : List (List Nat)} (h : OutSt K S H a n d ws) : OutAt K S H a n d ws := let ⟨na, wa, wl, i, _⟩ := h.ex; ⟨na, wa, wl, i⟩
theorem OutSt.kp {a : Addr} {n : Vbtoad.Net} {d : Nat} {ws : List (List Nat)} (h : OutSt K S H a n d ws) (k : Kp S H H1) : OutSt K S H1 a n d ws := by
  obtain ⟨na, wa, wl, i, h1, h2⟩ := h.ex
  obtain ⟨dx, e⟩ := i.own.1
  obtain ⟨xs, ex, rx⟩ := i.ls
  refine ⟨na, wa, wl, ⟨⟨⟨dx, k.ins e i.own.2⟩, i.own.2⟩, i.net.kp k, i.ways.kp k, i.wf, i.goal, ⟨xs, k.lst ex h1, ⟨rx.len, fun j t et => ?_⟩⟩, i.lens⟩, h1, fun ys ey => ?_⟩
  · obtain ⟨b, eb, tb⟩ := rx.at_ j t et
    exact ⟨b, eb, k.lst tb (h2 xs ex _ (List.mem_of_getElem? eb) b rfl)⟩
  · rw [k.lst ex h1] at ey
    cases ey
    exact h2 xs ex
theorem OutSt.ext {a : Addr} {n : Vbtoad.Net} {d : Nat} {ws : List (List Nat)} (h : OutSt K S H a n d ws) (k : Kp [] H H1) : OutSt K S H1 a n d ws := h.kp (k.mono fun _ m => absurd m (by simp))
theorem OutSt.fresh {N : List Addr} {a : Addr} {n : Vbtoad.Net} {d : Nat} {ws : List (List Nat)} (h : OutSt K S H a n d ws) (f : ∀ c ∈ N, Fresh H c) : OutSt K (N ++ S) H a n d ws := by
  obtain ⟨na, wa, wl, i, h1, h2⟩ := h.ex
  have il : ∀ {c : Addr} {xs : List V}, H c = some (.lst xs) → c ∉ S → c ∉ N ++ S := fun {c xs} e hc m => by
    rcases List.mem_append.mp m with m | m
    · exact (f c m).ne_lst e rfl
    · exact hc m
  obtain ⟨dx, e⟩ := i.own.1
  obtain ⟨xs, ex, rx⟩ := i.ls
  refine ⟨na, wa, wl, ⟨⟨⟨dx, e⟩, fun m => ?_⟩, i.net.fresh f, i.ways.fresh f, i.wf, i.goal, ⟨xs, ex, rx⟩, i.lens⟩, il ex h1, fun ys ey v hv b hb => ?_⟩
  · rcases List.mem_append.mp m with m | m
    · exact (f a m).ne_ins e rfl
    · exact i.own.2 m
  · obtain ⟨j, hj, ej⟩ := List.mem_iff_getElem.mp hv
    rw [ex] at ey
    cases ey
    have ev : xs[j]? = some v := by rw [List.getElem?_eq_getElem hj, ej]
    obtain ⟨b', t, e1, _, tb⟩ := rx.get ev
    rw [hb] at e1
    cases e1
    exact il tb (h2 xs ex v hv b hb)
end
/-! ## the tables of the two lambdas -/
def lamQ (x : Str) : Str := (x ++ ".<locals>.") ++ "<lambda>"
def tabT (K : PySem.W.Frag) : List (Addr × Str) := [((He.cT K ("latest_first", none)).2, lamQ "latest_first"), ((He.cT K ("departure_to_take", none)).2, lamQ "departure_to_take")]
section
variable {P : Program} {w : World} {K : PySem.W.Frag} {mg : Str → Option Value} {base : Heap}
theorem tabT_1 (T : Fx K mg base) : ∀ p ∈ tabT K, p.1 = (He.cT K ("latest_first", none)).2 → p.2 = lamQ "latest_first" := by
  have h : ([(He.cT K ("latest_first", none)).2, (He.cT K ("departure_to_take", none)).2] : List Addr).Nodup := of_decide_eq_true T.tnd
  intro p hp e
  rcases List.mem_cons.mp hp with rfl | hp
  · rfl
  · have : p = ((He.cT K ("departure_to_take", none)).2, lamQ "departure_to_take") := by simpa using hp
    subst this
    exact absurd (List.mem_singleton.mpr e.symm) (List.nodup_cons.mp h).1
theorem tabT_2 (T : Fx K mg base) : ∀ p ∈ tabT K, p.1 = (He.cT K ("departure_to_take", none)).2 → p.2 = lamQ "departure_to_take" := by
  have h : ([(He.cT K ("latest_first", none)).2, (He.cT K ("departure_to_take", none)).2] : List Addr).Nodup := of_decide_eq_true T.tnd
  intro p hp e
  rcases List.mem_cons.mp hp with rfl | hp
  · exact absurd (List.mem_singleton.mpr e) (List.nodup_cons.mp h).1
  · have : p = ((He.cT K ("departure_to_take", none)).2, lamQ "departure_to_take") := by simpa using hp
    subst this
    rfl
/-- a def that knows its code object -/
theorem okC {CX : CXT} {N ps : List Str} {k : Nat} {sp : Sp} {d : He.DefD} {fd : FuncData} (F : FunD K d.name d.qual d.params d.body d.scope [] [] (He.fAd K d.at_) fd) (S : FnScope N ps d.scope) (len : ∀ vs H Q E, sp vs H Q E → vs.length = ps.length)
    (hbody : ∀ (A : Around) (outer : List Env) (s : Shared) (H : Hp) (vs : List V) (Q : VK) (E : XK), Room k (A.deeper (envOfC d.qual d.scope s.heap.objs.size (He.fAd K d.at_) (.ref (He.codeOf K d.at_)))) → sp vs H Q E →
      ∃ t, PSs (cxOf CX P w K mg base N d.qual d.scope (He.fAd K d.at_) (.ref (He.codeOf K d.at_)) A outer s H E) d.body t ∧ t { nx := fun _ H' => Q .non H', rt := Q } (start N vs) H) : FnOk P w K mg base CX (k + 1) (He.fAd K d.at_) fd ps sp := by
  obtain ⟨oc, od, dV, kV, doc, pm, an, cdv, ct, osl, rfl, lk, hcd, _, _⟩ := F.ex
  obtain ⟨c, rfl⟩ := He.codeIn_ref hcd
  have e := He.codeOf_eq lk rfl
  rw [e] at hbody
  exact fn_of lk hcd S len hbody
end
end SJ
end
section
set_option Elab.async false
set_option linter.all false
set_option maxRecDepth 100000
set_option maxHeartbeats 4000000
/-! Departures in their order; worths; an outlook made. -/
namespace SJ
open PySem PySem.Spec PyProof.Rows L2 LamX
section
variable {P : Program} {w : World} {K : PySem.W.Frag} {mg : Str → Option Value} {base : Heap}
/-- the keys that the lambdas read -/
theorem keys_go {S : List Addr} {H : Hp} {ds : List V} {n : Vbtoad.Net} (T : Fx K mg base) (r : Each (GoAt K S H) ds n.goes) : KeysAt K "leaves" H ds (fun j => (depAt n j : Int)) := fun j hj => by
  obtain ⟨v, hv⟩ : ∃ v, ds[j]? = some v := ⟨_, List.getElem?_eq_getElem hj⟩
  obtain ⟨b, g, rfl, hg, dx, sg, e, _⟩ := r.get hv
  refine ⟨b, _, dx, _, hv, e, c_Departure T, n_Departure_leaves T, ?_⟩
  show _ = some (V.int (depAt n j : Int))
  rw [depAt_of hg]
  rfl
def sp_latest_first (K : PySem.W.Frag) : Sp := fun vs H Q _ => ∃ (S : List Addr) (ld : Addr) (ds : List V) (n : Vbtoad.Net), vs = [.ref ld] ∧ H ld = some (.lst ds) ∧ Each (GoAt K S H) ds n.goes ∧ n.goes.length ≤ 30 ∧ Tabs (tabT K) H ∧
  ∀ p H1, ExtN H H1 → Tabs (tabT K) H1 → Fresh H p → TextAt H1 p (Vbtoad.lastFirst n) → Q (.ref p) H1
theorem sc_latest_first : FnScope ["departures"] ["departures"] d_latest_first.scope := ⟨rfl, rfl, rfl, by decide +kernel, rfl, by decide +kernel, by decide +kernel⟩
theorem ok_latest_first (T : Fx K mg base) : Fn0 P w K mg base 1 "latest_first" (sp_latest_first K) := by
  obtain ⟨fd, F⟩ := F_latest_first T
  refine ⟨⟨_, fd, ["departures"], okC F sc_latest_first (fun vs H Q E h => ?_) (fun A outer s H vs Q E hr h => ⟨_, PSs.nox (pss_one (ps_ret (pe_sortedLam (T := tabT K) (c := (He.cT K ("latest_first", none)).1) (P := (He.cT K ("latest_first", none)).2) (i := 0) ⟨rfl, rfl, rfl, by decide +kernel, by decide +kernel, by decide +kernel, by decide +kernel, by decide +kernel, by decide +kernel⟩ rfl hr (by rfl) (b_sorted T) (pa_cons (pe_callTy cr_range1 (by rfl) (b_range T) (by decide +kernel) (pa_cons (pe_callB call_len_seq (by rfl) (b_len T) (by decide +kernel) (pa_cons (pv 0) pa_nil)) pa_nil)) pa_nil)
    (T.tab _ (List.mem_map.mpr ⟨("latest_first", none), by decide +kernel, rfl⟩)) rfl List.mem_cons_self (tabT_1 T) rfl rfl rfl ?_ ?_ (fun _ _ _ _ _ _ => rfl)))), ?_⟩), g_latest_first T, F.kp, F.bindsN (fun _ _ _ _ _ _ us hl => match us, hl with | [_], _ => rfl)⟩⟩
  · obtain ⟨S, ld, ds, n, rfl, _⟩ := h
    rfl
  · intro cl e
    cases e
    rfl
  · intro y hy e
    revert e
    revert y
    decide +kernel
  · obtain ⟨S, ld, ds, n, rfl, hl, r, hn, hT, q⟩ := h
    refine ⟨_, rfl, ld, _, rfl, .inl (SqL.of hl), _, rfl, fun rg hrg => ⟨rg, ld, ds.length, ds, _, rfl, upd_same, ?_, Nat.le_refl _, rfl, SqL.of (same_new hrg _ _ hl), keys_go T (r.mono fun _ _ z => z.keep (Same.keeps (same_new hrg))), hT.ext (same_new hrg), fun H2 hE hT2 p hp => ?_⟩⟩
    · have := r.len
      omega
    · have e1 : ExtN H H2 := (ExtN.of (same_new hrg)).trans hE
      have e2 : (List.range ds.length).mergeSort (fun a b => decide ((depAt n b : Int) ≤ (depAt n a : Int))) = Vbtoad.lastFirst n := by
        rw [r.len]
        exact sorted_is (key := fun j => (depAt n j : Int)) fun _ _ => rfl
      refine q p _ (e1.trans (ExtN.of (same_new hp))) (hT2.ext (same_new hp)) (Fresh.back (Kp.ext e1) (Fresh.none hp)) ?_
      show (upd H2 p (.lst (nv ((List.range ds.length).mergeSort (fun a b => decide ((depAt n b : Int) ≤ (depAt n a : Int))))))) p = _
      rw [e2]
      exact upd_same
end
end SJ
end
section
set_option Elab.async false
set_option linter.all false
set_option maxRecDepth 100000
set_option maxHeartbeats 4000000
/-! Worths of one k added to an outlook. -/
namespace SJ
open PySem PySem.Spec PyProof.Rows L2 LamX
/-! ## in numbers -/
def fewerOf (n : Vbtoad.Net) (d : Nat) : Nat → Option (List Nat)
  | 0 => none
  | k + 1 => some (worthsM n d k)
theorem worthsM_eq (n : Vbtoad.Net) (d k : Nat) : worthsM n d k = fillM n d (fewerOf n d k) (Vbtoad.lastFirst n) (List.replicate n.goes.length NEVER) := by
  cases k <;> rfl
def rowsTo (n : Vbtoad.Net) (d k : Nat) : List (List Nat) := (List.range k).map (worthsM n d)
theorem rowsTo_get {n : Vbtoad.Net} {d k i : Nat} (h : i < k) : (rowsTo n d k)[i]? = some (worthsM n d i) := by
  unfold rowsTo
  rw [List.getElem?_map, List.getElem?_range h]
  rfl
theorem rowsTo_len (n : Vbtoad.Net) (d k : Nat) : (rowsTo n d k).length = k := by
  unfold rowsTo
  rw [List.length_map, List.length_range]
theorem rowsTo_succ (n : Vbtoad.Net) (d k : Nat) : rowsTo n d (k + 1) = rowsTo n d k ++ [worthsM n d k] := by
  unfold rowsTo
  rw [List.range_succ, List.map_append]
  rfl
theorem fillM_len (n : Vbtoad.Net) (d : Nat) (f : Option (List Nat)) : ∀ order ws : List Nat, (fillM n d f order ws).length = ws.length
  | [], _ => rfl
  | i :: order, ws => by
    unfold fillM
    rw [List.foldl_cons]
    cases n.goes[i]? with
    | none => exact fillM_len n d f order ws
    | some g =>
      have := fillM_len n d f order (ws.set i (worthM n d f ws g))
      rw [List.length_set] at this
      exact this
theorem fillM_snoc (n : Vbtoad.Net) (d : Nat) (f : Option (List Nat)) (order ws : List Nat) (i : Nat) (g : Vbtoad.Go) (h : n.goes[i]? = some g) : fillM n d f (order ++ [i]) ws = (fillM n d f order ws).set i (worthM n d f (fillM n d f order ws) g) := by
  unfold fillM
  rw [List.foldl_append]
  show (match n.goes[i]? with | some g => _ | none => _) = _
  rw [h]
theorem fWorth_is {n : Vbtoad.Net} {d k : Nat} {cur : List Nat} {g : Vbtoad.Go} : fWorth n d (rowsTo n d k ++ [cur]) k g = some (worthM n d (fewerOf n d k) cur g) := by
  have last : (rowsTo n d k ++ [cur])[k]? = some cur := by
    rw [List.getElem?_append_right (by rw [rowsTo_len]; exact Nat.le_refl _), rowsTo_len, Nat.sub_self]
    rfl
  cases k with
  | zero =>
    show ((rowsTo n d 0 ++ [cur])[0]?).map (fun row => worthM n d none row g) = _
    rw [last]
    rfl
  | succ k =>
    have prev : (rowsTo n d (k + 1) ++ [cur])[k]? = some (worthsM n d k) := by
      rw [List.getElem?_append_left (by rw [rowsTo_len]; exact Nat.lt_succ_self _), rowsTo_get (Nat.lt_succ_self _)]
    show ((rowsTo n d (k + 1) ++ [cur])[k]?).bind (fun us => ((rowsTo n d (k + 1) ++ [cur])[k + 1]?).map fun row => worthM n d (some us) row g) = _
    rw [prev, last]
    rfl
theorem worthsM_len (n : Vbtoad.Net) (d k : Nat) : (worthsM n d k).length = n.goes.length := by
  rw [worthsM_eq, fillM_len, List.length_replicate]
section
variable {K : PySem.W.Frag} {S : List Addr} {H H1 : Hp}
/-- the last row changes -/
theorem OutIs.row {a na wa wl r : Addr} {n : Vbtoad.Net} {d : Nat} {ws : List (List Nat)} {xs : List V} {c0 cur : List Nat} (h : OutIs K (r :: S) H a na wa wl n d (ws ++ [c0])) (ew : H wl = some (.lst (xs ++ [.ref r]))) (nw : wl ≠ r) (ox : ∀ v ∈ xs, v ≠ .ref r) (k : Kp [r] H H1) (er : H1 r = some (.lst (nv cur))) (hl : cur.length = n.goes.length) :
    OutIs K (r :: S) H1 a na wa wl n d (ws ++ [cur]) := by
  have k2 : Kp (r :: S) H H1 := k.mono fun b m => by
    rw [List.mem_singleton.mp m]
    exact List.mem_cons_self
  obtain ⟨dx, e⟩ := h.own.1
  obtain ⟨ys, ey, ry⟩ := h.ls
  rw [ew] at ey
  cases ey
  have lx : xs.length = ws.length := by
    have := ry.len
    rw [List.length_append, List.length_append] at this
    simpa using this
  refine ⟨⟨⟨dx, k2.ins e h.own.2⟩, h.own.2⟩, h.net.kp k2, h.ways.kp k2, h.wf, h.goal, ⟨xs ++ [.ref r], k.lst ew (by simpa using nw), ?_⟩, fun t ht => ?_⟩
  · refine Each.snoc ⟨lx, fun i t et => ?_⟩ er
    have hi : i < ws.length := (List.getElem?_eq_some_iff.mp et).1
    obtain ⟨b, eb, tb⟩ := ry.at_ i t (by rw [List.getElem?_append_left hi]; exact et)
    rw [List.getElem?_append_left (by rw [lx]; exact hi)] at eb
    refine ⟨b, eb, k.lst tb ?_⟩
    rw [List.mem_singleton]
    rintro rfl
    exact ox _ (List.mem_of_getElem? eb) rfl
  · rcases List.mem_append.mp ht with ht | ht
    · exact h.lens t (List.mem_append_left _ ht)
    · rw [List.mem_singleton.mp ht]
      exact hl
end
section
variable {P : Program} {w : World} {K : PySem.W.Frag} {mg : Str → Option Value} {base : Heap}
def sp_add_worths (K : PySem.W.Frag) : Sp := fun vs H Q _ => ∃ (S : List Addr) (a na wa wl : Addr) (n : Vbtoad.Net) (d k : Nat) (xs : List V), vs = [.ref a, .int (k : Nat)] ∧ OutIs K S H a na wa wl n d (rowsTo n d k) ∧ wl ∈ S ∧ H wl = some (.lst xs) ∧ k ≤ 3 ∧ Tabs (tabT K) H ∧
  ∀ H1 r, Kp [wl] H H1 → Tabs (tabT K) H1 → OutIs K S H1 a na wa wl n d (rowsTo n d (k + 1)) → H1 wl = some (.lst (xs ++ [.ref r])) → Fresh H r → Q .non H1
theorem sc_add_worths : FnScope ["outlook", "k", "departures", "number"] ["outlook", "k"] d_add_worths.scope := ⟨rfl, rfl, rfl, by decide +kernel, rfl, by decide +kernel, by decide +kernel⟩
theorem ok_add_worths (T : Fx K mg base) : Fn0 P w K mg base 5 "add_worths" (sp_add_worths K) := by
  obtain ⟨fd, F⟩ := F_add_worths T
  refine ⟨⟨_, fd, ["outlook", "k"], F.ok sc_add_worths (fun vs H Q E h => ?_) (fun cdv A outer s H vs Q E hr h => ⟨_, PSs.nox (pss_cons (ps_set (i := 2) sc_add_worths.nd rfl (Or.inl rfl) (pe_fld (pe_fld (pv 0) rfl) rfl)) (pss_cons (ps_expr (pe_bm PySem.F.plainAttrs_list PySem.F.slot_list_append PySem.F.type_list_append mt_append (pe_fld (pv 0) rfl) (pa_cons (pe_op op_rep (pe_lst (pa_cons (C8.pe_gc rfl (i_NEVER T)) pa_nil)) (pe_callB call_len_seq (by rfl) (b_len T) (by decide +kernel) (pa_cons (pv 2) pa_nil))) pa_nil))) (pss_one (ps_for PassesOwn.never rfl (pi_list (pe_c0 (ok_latest_first T) hr (by decide) rfl (pa_cons (pv 2) pa_nil))) (pg_name (i := 3) sc_add_worths.nd rfl (Or.inl rfl)) (pss_one (ps_asg (pe_c0 (ok_worth_of T) hr (by decide) rfl (pa_cons (pv 0) (pa_cons (pv 1) (pa_cons (pe_ix ix_list (pv 2) (pv 3) (fun _ _ => rfl)) pa_nil)))) (pg_sub (pe_ix ix_list (pe_fld (pv 0) rfl) (pv 1) (fun _ _ => rfl)) (pv 3) set_list))))))), ?_⟩), g_add_worths T, F.kp, F.bindsN (fun _ _ _ _ _ _ us hl => match us, hl with | [_, _], _ => rfl)⟩⟩
  · obtain ⟨S, a, na, wa, wl, n, d, k, xs, rfl, _⟩ := h
    rfl
  · obtain ⟨S, a, na, wa, wl, n, d, k, xs, rfl, hO, hw, ex, hk, hT, q⟩ := h
    obtain ⟨dx, e⟩ := hO.own.1
    obtain ⟨lp, lc, ld, ⟨⟨⟨dn, en⟩, ea⟩, _, _, ⟨ds, ed, rd⟩⟩, _, _, hld⟩ := id hO.net
    obtain ⟨xs', ex', rx⟩ := hO.ls
    rw [ex] at ex'
    cases ex'
    have g30 := hO.wf.ng
    have lx : xs.length = k := by rw [rx.len, rowsTo_len]
    refine ⟨_, rfl, a, _, dx, _, _, rfl, e, c_Outlook T, n_Outlook_net T, rfl, na, _, dn, _, _, rfl, en, c_Net T, n_Net_departures T, rfl, ?_⟩
    refine ⟨_, rfl, a, _, dx, _, _, rfl, e, c_Outlook T, n_Outlook_worths T, rfl, .inl ⟨rfl, _, SqL.of ex⟩, by show 1 ≤ sizeLine; rw [sizeLine_eq]; omega, fun g hg => ?_⟩
    have s1 : Same H (upd H g (.lst [.int 1000000000])) := same_new hg
    refine ⟨_, rfl, ld, ds, rfl, .inl (SqL.of (s1 _ _ ed)), g, (ds.length : Int), [.int 1000000000], rfl, rfl, upd_same, by omega, by rw [rd.len]; omega, by rw [rd.len, Int.toNat_natCast, sizeLine_eq]; show 1 * _ ≤ _; omega, fun r hr => ?_⟩
    rw [rd.len, Int.toNat_natCast]
    have er : (List.replicate n.goes.length [V.int 1000000000]).flatten = nv (List.replicate n.goes.length NEVER) := by
      rw [List.flatten_replicate_singleton]
      unfold nv
      rw [List.map_replicate]
      rfl
    rw [er]
    have s2 : Same H (upd (upd H g (.lst [.int 1000000000])) r (.lst (nv (List.replicate n.goes.length NEVER)))) := s1.trans (same_new hr)
    have hrH : H r = none := s1.free hr
    refine ⟨wl, xs, .ref r, rfl, rfl, s2 _ _ ex, small1000 (by rw [lx]; omega), ?_⟩
    let G0 : Hp := upd (upd (upd H g (.lst [.int 1000000000])) r (.lst (nv (List.replicate n.goes.length NEVER)))) wl (.lst (xs ++ [.ref r]))
    have rw_ : wl ≠ r := ne_of_none ex hrH
    have k0 : Kp [wl] H G0 := (Kp.same s2).trans (Kp.upd (by simp))
    have e0w : G0 wl = some (.lst (xs ++ [.ref r])) := upd_same
    have e0r : G0 r = some (.lst (nv (List.replicate n.goes.length NEVER))) := by
      show (upd _ wl _) r = _
      rw [upd_ne (Ne.symm rw_)]
      exact upd_same
    have kS : Kp S H G0 := k0.mono fun b m => by
      rw [List.mem_singleton.mp m]
      exact hw
    have fr : ∀ c ∈ [r], Fresh H c := fun c m => by
      rw [List.mem_singleton.mp m]
      exact Fresh.none hrH
    have kS1 : Kp ([r] ++ S) H G0 := kS.mono fun b m => List.mem_append_right _ m
    have ox : ∀ v ∈ xs, v ≠ .ref r := fun v hv z => by
      obtain ⟨j, hj, ej⟩ := List.mem_iff_getElem.mp hv
      obtain ⟨b, t, e1, _, tb⟩ := rx.get (show xs[j]? = some v by rw [List.getElem?_eq_getElem hj, ej])
      rw [z] at e1
      cases e1
      rw [tb] at hrH
      cases hrH
    have O0 : OutIs K (r :: S) G0 a na wa wl n d (rowsTo n d k ++ [List.replicate n.goes.length NEVER]) := by
      refine ⟨⟨⟨dx, kS.ins e hO.own.2⟩, fun m => ?_⟩, (hO.net.fresh fr).kp kS1, (hO.ways.fresh fr).kp kS1, hO.wf, hO.goal, ⟨_, e0w, Each.snoc ⟨rx.len, fun i t et => ?_⟩ e0r⟩, fun t ht => ?_⟩
      · rcases List.mem_cons.mp m with z | m
        · rw [z, hrH] at e
          cases e
        · exact hO.own.2 m
      · obtain ⟨b, eb, tb⟩ := rx.at_ i t et
        refine ⟨b, eb, k0.lst tb ?_⟩
        rw [List.mem_singleton]
        rintro rfl
        rw [tb] at ex
        cases ex
        have hi : i < k := by rw [← lx]; exact (List.getElem?_eq_some_iff.mp eb).1
        have : ∀ v ∈ nv t, ∃ m : Nat, v = .int m := fun v hv => let ⟨m, _, z⟩ := List.mem_map.mp hv; ⟨m, z.symm⟩
        obtain ⟨m, z⟩ := this _ (List.mem_of_getElem? eb)
        cases z
      · rcases List.mem_append.mp ht with ht | ht
        · exact hO.lens t ht
        · rw [List.mem_singleton.mp ht]
          exact List.length_replicate
    have hT0 : Tabs (tabT K) G0 := tabs_kt (hT.ext s2) (Kt.upd_lst (s2 _ _ ex))
    have hldr : ld ∉ r :: S := fun m => by
      rcases List.mem_cons.mp m with z | m
      · rw [z, hrH] at ed
        cases ed
      · exact hld m
    have rd0 : Each (GoAt K (r :: S) G0) ds n.goes := by
      obtain ⟨lp', lc', ld', ⟨⟨⟨dn', en'⟩, _⟩, _, _, ⟨ds', ed', rd'⟩⟩, _, _, _⟩ := id O0.net
      have en0 := kS.ins en ea
      rw [en0] at en'
      cases en'
      have ed0 : G0 ld = some (.lst ds) := kS.lst ed hld
      rw [ed0] at ed'
      cases ed'
      exact rd'
    refine ⟨_, rfl, r :: S, ld, ds, n, rfl, kS.lst ed hld, rd0, g30, hT0, fun po H3 hE hT3 fpo tpo => ?_⟩
    have k3 : Kp [r] G0 H3 := Kp.ext hE
    have por : po ≠ r := (fpo.ne_lst e0r).symm
    have pow : po ≠ wl := (fpo.ne_lst e0w).symm
    refine ⟨po, rfl, ⟨_, SqL.of tpo⟩, for_it (walk_list (xs := nv (Vbtoad.lastFirst n))) (fun i σ G => ∃ v, σ = [some (.ref a), some (.int (k : Nat)), some (.ref ld), v] ∧ Kp [r] H3 G ∧ Tabs (tabT K) G ∧ G r = some (.lst (nv (fillM n d (fewerOf n d k) ((Vbtoad.lastFirst n).take i) (List.replicate n.goes.length NEVER))))) ⟨_, rfl, Kp.refl _ _, hT3, ?_⟩ (fun i σ G _ ⟨_, _, kk, _⟩ => SqL.of (kk.lst tpo (by simpa using por))) ?_ ?_⟩
    · rw [List.take_zero]
      exact hE r _ e0r fun _ z => by cases z
    · rintro i v σ G G' hi ⟨v3, rfl, kG, tG, eG⟩ ⟨rfl, hv⟩
      obtain ⟨m, hm, rfl⟩ := nv_get hv
      have ml : m < n.goes.length := List.mem_range.mp ((lastFirst_perm n).mem_iff.mp (List.mem_of_getElem? hm))
      have k4 : Kp [r] G0 G' := k3.trans kG
      have cl : (fillM n d (fewerOf n d k) ((Vbtoad.lastFirst n).take i) (List.replicate n.goes.length NEVER)).length = n.goes.length := by rw [fillM_len, List.length_replicate]
      have O4 := O0.row e0w rw_ ox k4 eG cl
      obtain ⟨d4, e4⟩ := O4.own.1
      have ed4 : G' ld = some (.lst ds) := k4.lst (kS.lst ed hld) (fun z => hldr (List.mem_cons.mpr (.inl (List.mem_singleton.mp z))))
      obtain ⟨gb, egb, hgb⟩ := rd0.at_ m _ (List.getElem?_eq_getElem ml)
      have hgb4 := hgb.kp (k4.mono fun b z => by rw [List.mem_singleton.mp z]; exact List.mem_cons_self)
      refine ⟨_, rfl, _, rfl, _, rfl, _, rfl, ld, ds, (m : Int), .ref gb, rfl, rfl, SqL.of ed4, atI_nat egb, r :: S, a, gb, n, d, rowsTo n d k ++ [fillM n d (fewerOf n d k) ((Vbtoad.lastFirst n).take i) (List.replicate n.goes.length NEVER)], k, n.goes[m], _, rfl, ⟨na, wa, wl, O4⟩, List.getElem_mem ml, hgb4, fWorth_is, fun H5 s5 => ?_⟩
      have ewl5 : H5 wl = some (.lst (xs ++ [.ref r])) := s5 _ _ (k4.lst e0w (by simpa using rw_))
      have eat : (xs ++ [V.ref r])[k]? = some (.ref r) := by
        rw [List.getElem?_append_right (by omega), lx, Nat.sub_self]
        rfl
      refine ⟨_, rfl, a, _, d4, _, _, rfl, s5 _ _ e4, c_Outlook T, n_Outlook_worths T, rfl, _, rfl, wl, _, (k : Int), .ref r, rfl, rfl, SqL.of ewl5, atI_nat eat, _, rfl, r, _, (m : Int), m, rfl, rfl, s5 _ _ eG, ixN_nat (by rw [nv_len, cl]; exact ml), ?_⟩
      refine ⟨_, rfl, kG.trans ((Kp.same s5).trans (Kp.upd (by simp))), tabs_kt (tG.ext s5) (Kt.upd_lst (s5 _ _ eG)), ?_⟩
      rw [upd_same, nv_set, List.take_add_one, hm]
      show some (HO.lst (nv _)) = some (.lst (nv (fillM n d (fewerOf n d k) ((Vbtoad.lastFirst n).take i ++ [m]) _)))
      rw [fillM_snoc n d _ _ _ m _ (List.getElem?_eq_getElem ml)]
    · rintro σ G ⟨v3, rfl, kG, tG, eG⟩
      rw [nv_len, List.take_length, ← worthsM_eq] at eG
      have k4 : Kp [r] G0 G := k3.trans kG
      have O4 := O0.row e0w rw_ ox k4 eG (worthsM_len n d k)
      rw [← rowsTo_succ] at O4
      have ew4 : G wl = some (.lst (xs ++ [.ref r])) := k4.lst e0w (by simpa using rw_)
      have nin : ∀ c, c ∉ S → c ≠ r → c ∉ r :: S := fun c h1 h2 m => by
        rcases List.mem_cons.mp m with z | m
        · exact h2 z
        · exact h1 m
      refine q G r ?_ tG ⟨⟨O4.own.1, hO.own.2⟩, O4.net.less fun c hc m => hc (List.mem_cons_of_mem _ m), ?_, O4.wf, O4.goal, O4.ls, O4.lens⟩ ew4 (Fresh.none hrH)
      · intro b o hb eb tb
        refine k4 b o ?_ (k0 b o hb eb tb) tb
        rw [List.mem_singleton]
        rintro rfl
        rw [hrH] at eb
        cases eb
      · obtain ⟨dw, ca, ra, f1, f2, ⟨x1, f3, f4, f5⟩, ⟨x2, f6, f7, f8⟩⟩ := O4.ways
        have out : ∀ c, c ∉ r :: S → c ∉ S := fun c h m => h (List.mem_cons_of_mem _ m)
        exact ⟨dw, ca, ra, f1, out _ f2, ⟨x1, f3, out _ f4, f5.mono fun _ _ z => ⟨z.1, out _ z.2⟩⟩, ⟨x2, f6, out _ f7, f8.mono fun _ _ z => ⟨z.1, out _ z.2⟩⟩⟩
end
end SJ
end
section
set_option Elab.async false
set_option linter.all false
set_option maxRecDepth 100000
set_option maxHeartbeats 4000000
/-! An outlook made. -/
namespace SJ
open PySem PySem.Spec PyProof.Rows L2 LamX
/-- the rows are new to H -/
def RowsNew (H : Hp) (xs : List V) : Prop := ∀ v ∈ xs, ∀ b, v = .ref b → Fresh H b
section
variable {K : PySem.W.Frag} {S S' : List Addr} {H : Hp}
theorem TabAt.less {a : Addr} {rows : List (List Nat)} (h : TabAt S H a rows) (k : ∀ c, c ∉ S → c ∉ S') : TabAt S' H a rows := let ⟨xs, e, n, r⟩ := h; ⟨xs, e, k _ n, r.mono fun _ _ z => ⟨z.1, k _ z.2⟩⟩
theorem WaysAt.less {a : Addr} {n : Vbtoad.Net} (h : WaysAt K S H a n) (k : ∀ c, c ∉ S → c ∉ S') : WaysAt K S' H a n := let ⟨dx, ca, ra, e, i, t1, t2⟩ := h; ⟨dx, ca, ra, e, k _ i, t1.less k, t2.less k⟩
end
section
variable {P : Program} {w : World} {K : PySem.W.Frag} {mg : Str → Option Value} {base : Heap}
def sp_Outlook_init (K : PySem.W.Frag) : Sp := fun vs H Q _ => ∃ (S : List Addr) (p dx na wa : Addr) (n : Vbtoad.Net) (d m : Nat), vs = [.ref p, .ref na, .ref wa, .int (d : Nat), .int (m : Nat)] ∧ H p = some (.ins (He.ga K "Outlook") dx []) ∧ p ∈ S ∧ NetAt K S H na n ∧ WaysAt K S H wa n ∧ WF n ∧ d < n.places.length ∧ m ≤ 3 ∧ Tabs (tabT K) H ∧
  ∀ H1 wl xs, Kp [p] H H1 → Tabs (tabT K) H1 → H1 p = some (.ins (He.ga K "Outlook") dx [("net", .ref na), ("ways", .ref wa), ("goal", .int (d : Nat)), ("worths", .ref wl)]) → H1 wl = some (.lst xs) → Fresh H wl → Each (TextAt H1) xs (rowsTo n d (m + 1)) → RowsNew H xs → Q .non H1
theorem sc_Outlook_init : FnScope ["self", "net", "ways", "goal", "most", "k"] ["self", "net", "ways", "goal", "most"] d_Outlook_init.scope := ⟨rfl, rfl, rfl, by decide +kernel, rfl, by decide +kernel, by decide +kernel⟩
theorem ok_Outlook_init (T : Fx K mg base) : Mk0 P w K mg base 6 "Outlook" (sp_Outlook_init K) := by
  obtain ⟨fd, F⟩ := F_Outlook_init T
  refine ⟨⟨_, fd, ["self", "net", "ways", "goal", "most"], m_Outlook T, F.ok sc_Outlook_init (fun vs H Q E h => ?_) (fun cdv A outer s H vs Q E hr h => ⟨_, PSs.nox (pss_cons (ps_fld (pv 0) (pv 1) rfl) (pss_cons (ps_fld (pv 0) (pv 2) rfl) (pss_cons (ps_fld (pv 0) (pv 3) rfl) (pss_cons (ps_fld (pv 0) (pe_lst (pa_nil)) rfl) (pss_one (ps_for PassesOwn.never rfl (pi_range1 (by rfl) (b_range T) (pa_cons (pe_op op_add (pv 4) (pe_int)) pa_nil)) (pg_name (i := 5) sc_Outlook_init.nd rfl (Or.inl rfl)) (pss_one (ps_expr (pe_c0 (ok_add_worths T) hr (by decide) rfl (pa_cons (pv 0) (pa_cons (pv 5) pa_nil))))))))))), ?_⟩), g_Outlook T, F.bindsN (fun _ _ _ _ _ _ us hl => match us, hl with | [_, _, _, _, _], _ => rfl)⟩⟩
  · obtain ⟨S, p, dx, na, wa, n, d, m, rfl, _⟩ := h
    rfl
  · obtain ⟨S, p, dx, na, wa, n, d, m, rfl, hp, hm, hN, hWy, hW, hd, hm3, hT, q⟩ := h
    refine ⟨_, rfl, _, rfl, p, _, dx, _, rfl, hp, c_Outlook T, n_Outlook_net T, (by show 0 < 1000; decide), ?_⟩
    refine ⟨_, rfl, _, rfl, p, _, dx, _, rfl, upd_same, c_Outlook T, n_Outlook_ways T, (by show 1 < 1000; decide), ?_⟩
    refine ⟨_, rfl, _, rfl, p, _, dx, _, rfl, upd_same, c_Outlook T, n_Outlook_goal T, (by show 2 < 1000; decide), ?_⟩
    let A3 : Hp := upd (upd (upd H p (.ins (He.ga K "Outlook") dx [("net", .ref na)])) p (.ins (He.ga K "Outlook") dx [("net", .ref na), ("ways", .ref wa)])) p (.ins (He.ga K "Outlook") dx [("net", .ref na), ("ways", .ref wa), ("goal", .int (d : Nat))])
    have a3p : A3 p = some (.ins (He.ga K "Outlook") dx [("net", .ref na), ("ways", .ref wa), ("goal", .int (d : Nat))]) := upd_same
    have k3 : Kp [p] H A3 := ((Kp.upd (by simp)).trans (Kp.upd (by simp))).trans (Kp.upd (by simp))
    have t3 : Kt H A3 := ((Kt.upd_ins hp).trans (Kt.upd_ins upd_same)).trans (Kt.upd_ins upd_same)
    refine ⟨Nat.zero_le _, fun wl hwl => ?_⟩
    have pwl : p ≠ wl := ne_of_none a3p hwl
    have hwH : H wl = none := by
      have : A3 wl = H wl := by
        show (upd (upd (upd H p _) p _) p _) wl = _
        rw [upd_ne (Ne.symm pwl), upd_ne (Ne.symm pwl), upd_ne (Ne.symm pwl)]
      rw [← this]
      exact hwl
    have a4p : (upd A3 wl (.lst [])) p = some (.ins (He.ga K "Outlook") dx [("net", .ref na), ("ways", .ref wa), ("goal", .int (d : Nat))]) := by
      rw [upd_ne pwl]
      exact a3p
    refine ⟨_, rfl, p, _, dx, _, rfl, a4p, c_Outlook T, n_Outlook_worths T, (by show 3 < 1000; decide), ?_⟩
    let G5 : Hp := upd (upd A3 wl (.lst [])) p (.ins (He.ga K "Outlook") dx [("net", .ref na), ("ways", .ref wa), ("goal", .int (d : Nat)), ("worths", .ref wl)])
    have k5 : Kp [p] H G5 := (k3.trans (Kp.new hwl)).trans (Kp.upd (by simp))
    have t5 : Tabs (tabT K) G5 := tabs_kt hT ((t3.trans (Kt.same (same_new hwl))).trans (Kt.upd_ins a4p))
    have e5p : G5 p = some (.ins (He.ga K "Outlook") dx [("net", .ref na), ("ways", .ref wa), ("goal", .int (d : Nat)), ("worths", .ref wl)]) := upd_same
    have e5w : G5 wl = some (.lst []) := by
      show (upd _ p _) wl = _
      rw [upd_ne (Ne.symm pwl)]
      exact upd_same
    have fr : ∀ c ∈ [wl], Fresh H c := fun c m => by
      rw [List.mem_singleton.mp m]
      exact Fresh.none hwH
    have kS : Kp ([wl] ++ S) H G5 := k5.mono fun b m => by
      rw [List.mem_singleton.mp m]
      exact List.mem_append_right _ hm
    have ls : ∀ c, c ∉ [wl] ++ S → c ∉ [wl] := fun c h m => h (List.mem_append_left _ m)
    have O5 : OutIs K [wl] G5 p na wa wl n d (rowsTo n d 0) :=
      ⟨⟨⟨dx, e5p⟩, by simpa using pwl⟩, ((hN.fresh fr).kp kS).less ls, ((hWy.fresh fr).kp kS).less ls, hW, hd, ⟨[], e5w, Each.nil⟩, fun r hr => by simp [rowsTo] at hr⟩
    refine ⟨_, rfl, _, _, rfl, rfl, ((m + 1 : Nat) : Int), ?_, by omega, by omega, ?_⟩
    · rfl
    · rw [Int.toNat_natCast]
      refine for_it (walk_range (lo := 0) (n := m + 1)) (fun i σ G => ∃ v xs, σ = [some (.ref p), some (.ref na), some (.ref wa), some (.int (d : Nat)), some (.int (m : Nat)), v] ∧ Kp [p] H G ∧ Tabs (tabT K) G ∧ G p = some (.ins (He.ga K "Outlook") dx [("net", .ref na), ("ways", .ref wa), ("goal", .int (d : Nat)), ("worths", .ref wl)]) ∧ G wl = some (.lst xs) ∧ OutIs K [wl] G p na wa wl n d (rowsTo n d i) ∧ RowsNew H xs) ⟨none, [], rfl, k5, t5, e5p, e5w, O5, fun v hv => absurd hv (by simp)⟩ (fun _ _ _ _ _ => trivial) ?_ ?_
      · rintro i x σ G G' hi ⟨v, xs, rfl, kG, tG, ep, ew, O, new⟩ ⟨rfl, rfl⟩
        show gName 5 (V.int (0 + (i : Int))) _ _ _
        rw [Int.zero_add]
        refine ⟨_, rfl, _, rfl, [wl], p, na, wa, wl, n, d, i, xs, rfl, O, by simp, ew, by omega, tG, fun H1 r k1 t1 O1 e1 f1 => ?_⟩
        have kk : Kp [p] H H1 := fun b o hb eb tb => by
          refine k1 b o ?_ (kG b o hb eb tb) tb
          rw [List.mem_singleton]
          rintro rfl
          rw [hwH] at eb
          cases eb
        refine ⟨_, _, rfl, kk, t1, k1.ins ep (by simpa using pwl), e1, O1, fun v hv b hb => ?_⟩
        rcases List.mem_append.mp hv with hv | hv
        · exact new v hv b hb
        · rw [List.mem_singleton.mp hv] at hb
          cases hb
          exact Fresh.backs kG (by rw [List.mem_singleton]; exact (f1.ne_ins ep).symm) f1
      · rintro σ G ⟨v, xs, rfl, kG, tG, ep, ew, O, new⟩
        obtain ⟨ys, ey, ry⟩ := O.ls
        rw [ew] at ey
        cases ey
        exact q G wl xs kG tG ep ew (Fresh.none hwH) ry new
end
end SJ
end
section
set_option Elab.async false
set_option linter.all false
set_option maxRecDepth 100000
set_option maxHeartbeats 4000000
/-! Which car to take. -/
namespace SJ
open PySem PySem.Spec PyProof.Rows L2 LamX
/-- those of the first i cars that are good -/
def goodCars (n : Vbtoad.Net) (f : Vbtoad.Car → Bool) (i : Nat) : List Nat := (List.range i).filter fun c => (n.cars[c]?).any f
theorem goodCars_succ {n : Vbtoad.Net} {f : Vbtoad.Car → Bool} {i : Nat} {x : Vbtoad.Car} (h : n.cars[i]? = some x) : goodCars n f (i + 1) = goodCars n f i ++ if f x = true then [i] else [] := by
  unfold goodCars
  rw [List.range_succ, List.filter_append]
  congr 1
  rw [List.filter_cons, List.filter_nil, h]
  rfl
theorem goodCars_len (n : Vbtoad.Net) (f : Vbtoad.Car → Bool) (i : Nat) : (goodCars n f i).length ≤ i := by
  refine Nat.le_trans (List.length_filter_le _ _) ?_
  rw [List.length_range]
  exact Nat.le_refl _
theorem goodCars_first {n : Vbtoad.Net} {f : Vbtoad.Car → Bool} {c : Nat} (h : firstCar n f = some c) : (goodCars n f n.cars.length)[0]? = some c := by
  unfold firstCar at h
  rw [← List.head?_filter, List.head?_eq_getElem?] at h
  exact h
section
variable {P : Program} {w : World} {K : PySem.W.Frag} {mg : Str → Option Value} {base : Heap}
def sp_car_to_goal (K : PySem.W.Frag) : Sp := fun vs H Q _ => ∃ (S : List Addr) (a : Addr) (n : Vbtoad.Net) (d : Nat) (ws : List (List Nat)) (p c : Nat), vs = [.ref a, .int (p : Nat)] ∧ OutAt K S H a n d ws ∧ p < n.places.length ∧ firstCar n (goodGoal n d p) = some c ∧ ∀ H1, Same H H1 → Q (.int (c : Nat)) H1
theorem sc_car_to_goal : FnScope ["outlook", "place", "coming", "goal", "good", "number", "car", "ready"] ["outlook", "place"] d_car_to_goal.scope := ⟨rfl, rfl, rfl, by decide +kernel, rfl, by decide +kernel, by decide +kernel⟩
theorem ok_car_to_goal (T : Fx K mg base) : Fn0 P w K mg base 2 "car_to_goal" (sp_car_to_goal K) := by
  obtain ⟨fd, F⟩ := F_car_to_goal T
  refine ⟨⟨_, fd, ["outlook", "place"], F.ok sc_car_to_goal (fun vs H Q E h => ?_) (fun cdv A outer s H vs Q E hr h => ⟨_, PSs.nox (pss_cons (ps_set (i := 2) sc_car_to_goal.nd rfl (Or.inl rfl) (pe_fld (pe_fld (pv 0) rfl) rfl)) (pss_cons (ps_set (i := 3) sc_car_to_goal.nd rfl (Or.inl rfl) (pe_fld (pv 0) rfl)) (pss_cons (ps_set (i := 4) sc_car_to_goal.nd rfl (Or.inl rfl) (pe_lst (pa_nil))) (pss_cons (ps_for PassesOwn.never rfl (pi_enum (by rfl) (b_enumerate T) (pa_cons (pe_fld (pe_fld (pv 0) rfl) rfl) pa_nil)) (pg_tup rfl (pgs_cons (pg_name (i := 5) sc_car_to_goal.nd rfl (Or.inl rfl)) (pgs_cons (pg_name (i := 6) sc_car_to_goal.nd rfl (Or.inl rfl)) pgs_nil))) (pss_cons (ps_set (i := 7) sc_car_to_goal.nd rfl (Or.inl rfl) (pe_c0 (ok_minute_there T) hr (by decide) rfl (pa_cons (pv 0) (pa_cons (pe_fld (pv 6) rfl) (pa_cons (pe_fld (pv 6) rfl) pa_nil))))) (pss_one (ps_if (PW.pt (pw_and (pt_cmpR op_eq (pe_fld (pv 6) rfl) (pv 1) (nomark _)) (pw_and1 (pt_cmpR op_eq (pe_op op_add (pv 7) (pe_ix ix_list (pe_ix ix_list (pv 2) (pe_fld (pv 6) rfl) (fun _ _ => rfl)) (pv 3) (fun _ _ => rfl))) (pe_ix ix_list (pe_ix ix_list (pv 2) (pv 1) (fun _ _ => rfl)) (pv 3) (fun _ _ => rfl)) (nomark _))))) (pss_one (ps_expr (pe_bm PySem.F.plainAttrs_list PySem.F.slot_list_append PySem.F.type_list_append mt_append (pv 4) (pa_cons (pv 5) pa_nil)))) (pss_nil))))) (pss_one (ps_ret (pe_ix ix_list (pv 4) (pe_int) (fun _ _ => rfl)))))))), ?_⟩), g_car_to_goal T, F.kp, F.bindsN (fun _ _ _ _ _ _ us hl => match us, hl with | [_, _], _ => rfl)⟩⟩
  · obtain ⟨S, a, n, d, ws, p, c, rfl, _⟩ := h
    rfl
  · obtain ⟨S, a, n, d, ws, p, c, rfl, hA, hp, hc, q⟩ := h
    obtain ⟨na, wa, wl, hO⟩ := id hA
    obtain ⟨dx, e⟩ := hO.own.1
    obtain ⟨dw, ca, ra, ew, _, t1, t2⟩ := hO.ways
    obtain ⟨lp, lc, ld, ⟨⟨⟨dn, en⟩, ea⟩, _, ⟨cs, ec, rc⟩, _⟩, _⟩ := hO.net
    refine ⟨_, rfl, a, _, dx, _, _, rfl, e, c_Outlook T, n_Outlook_ways T, rfl, wa, _, dw, _, _, rfl, ew, c_Ways T, n_Ways_coming T, rfl, ?_⟩
    refine ⟨_, rfl, a, _, dx, _, _, rfl, e, c_Outlook T, n_Outlook_goal T, rfl, Nat.zero_le _, fun gl hgl => ?_⟩
    have s0 : Same H (upd H gl (.lst [])) := same_new hgl
    refine ⟨_, rfl, a, _, dx, _, _, rfl, s0 _ _ e, c_Outlook T, n_Outlook_net T, rfl, na, _, dn, _, _, rfl, s0 _ _ en, c_Net T, n_Net_cars T, rfl, lc, cs, rfl, SqL.of (s0 _ _ ec), for_it (walk_enum (xs := cs)) (fun i σ H1 => ∃ v5 v6 v7, σ = [some (.ref a), some (.int (p : Nat)), some (.ref ca), some (.int (d : Nat)), some (.ref gl), v5, v6, v7] ∧ Same H H1 ∧ H1 gl = some (.lst (nv (goodCars n (goodGoal n d p) i)))) ⟨none, none, none, rfl, s0, upd_same⟩ (fun i σ H1 _ ⟨_, _, _, _, s, _⟩ => SqL.of (s _ _ ec)) ?_ ?_⟩
    · rintro i x σ H1 H2 hi ⟨v5, v6, v7, rfl, s1, hg⟩ ⟨tp, y, z, rfl, htp, rfl, hy, hz⟩
      obtain rfl := Option.some.inj hy
      obtain ⟨cb, x, rfl, hx, hb⟩ := rc.get hz
      have s2 := same_new (o := .tup [.int (i : Nat), .ref cb]) htp
      have sb := s1.trans s2
      have C := hO.wf.car x (List.mem_of_getElem? hx)
      obtain ⟨dc, sg, f1, _⟩ := hb.keep (Same.keeps sb)
      obtain ⟨xs1, b1, e1, e2, e3, e4⟩ := tab_get t1 C.2.1 hO.goal
      obtain ⟨xs2, b2, e5, e6, e7, e8⟩ := tab_get t1 hp hO.goal
      refine ⟨tp, _, rfl, SqT.of upd_same, rfl, _, _, rfl, _, _, rfl, rfl, ?_⟩
      refine ⟨_, rfl, _, rfl, cb, _, dc, _, _, rfl, f1, c_Car T, n_Car_end T, rfl, _, rfl, cb, _, dc, _, _, rfl, f1, c_Car T, n_Car_minutes T, rfl, S, a, n, d, ws, x.to_, x.long, rfl, hA.same sb, C.2.1, ?_⟩
      refine ⟨_, rfl, cb, _, dc, _, _, rfl, f1, c_Car T, n_Car_origin T, rfl, _, rfl, rfl, _, rfl, ?_⟩
      have gd : goodGoal n d p x = true ↔ x.from_ = p ∧ thereM n d x.to_ x.long + D n x.to_ d = D n p d := goodGoal_iff
      have no : goodGoal n d p x ≠ true → Same H (upd H1 tp (.tup [.int (i : Nat), .ref cb])) ∧ (upd H1 tp (.tup [.int (i : Nat), .ref cb])) gl = some (.lst (nv (goodCars n (goodGoal n d p) (i + 1)))) := fun z => by
        refine ⟨sb, ?_⟩
        rw [goodCars_succ hx, if_neg z, List.append_nil]
        exact s2 _ _ hg
      by_cases c1 : V.int ((x.from_ : Nat) : Int) = V.int ((p : Nat) : Int)
      · refine ifT (decide_eq_true c1) ⟨_, rfl, _, rfl, _, rfl, cb, _, dc, _, _, rfl, f1, c_Car T, n_Car_end T, rfl, ca, xs1, (x.to_ : Int), .ref b1, rfl, rfl, SqL.of (sb _ _ e1), e2, _, rfl, b1, _, (d : Int), _, rfl, rfl, SqL.of (sb _ _ e3), e4, _, _, rfl, rfl, _, rfl, _, rfl, ca, xs2, (p : Int), .ref b2, rfl, rfl, SqL.of (sb _ _ e5), e6, _, rfl, b2, _, (d : Int), _, rfl, rfl, SqL.of (sb _ _ e7), e8, rfl, _, rfl, ?_⟩
        have c0 : x.from_ = p := by
          have := V.int.inj c1
          omega
        by_cases c2 : V.int ((thereM n d x.to_ x.long : Int) + (D n x.to_ d : Int)) = V.int (D n p d : Int)
        · have g1 : goodGoal n d p x = true := gd.mpr ⟨c0, by
            have := V.int.inj c2
            omega⟩
          refine ifT (decide_eq_true c2) ⟨_, rfl, .inl ⟨rfl, _, SqL.of (s2 _ _ hg)⟩, _, rfl, gl, _, _, rfl, rfl, s2 _ _ hg, ?_, ?_⟩
          · rw [nv_len]
            refine small1000 (Nat.le_trans (goodCars_len n _ i) ?_)
            have := hO.wf.nc
            have := rc.len
            omega
          · refine ⟨_, _, _, rfl, same_upd hgl sb, ?_⟩
            rw [upd_same, goodCars_succ hx, if_pos g1, nv_append]
            rfl
        · refine ifF (decide_eq_false c2) ⟨_, _, _, rfl, no fun z => c2 ?_⟩
          have := (gd.mp z).2
          congr 1
          omega
      · refine ifF (decide_eq_false c1) (iteF ⟨_, _, _, rfl, no fun z => c1 ?_⟩)
        have := (gd.mp z).1
        congr 1
        omega
    · rintro σ H1 ⟨v5, v6, v7, rfl, s1, hg⟩
      rw [rc.len] at hg
      have h0 : (nv (goodCars n (goodGoal n d p) n.cars.length))[0]? = some (.int (c : Nat)) := by
        unfold nv
        rw [List.getElem?_map, goodCars_first hc]
        rfl
      exact ⟨_, rfl, gl, _, 0, _, rfl, rfl, SqL.of hg, atI_nat (j := 0) h0, q H1 s1⟩
def sp_car_to_be_ready (K : PySem.W.Frag) : Sp := fun vs H Q _ => ∃ (S : List Addr) (a : Addr) (n : Vbtoad.Net) (d : Nat) (ws : List (List Nat)) (p u c : Nat), vs = [.ref a, .int (p : Nat), .int (u : Nat)] ∧ OutAt K S H a n d ws ∧ p < n.places.length ∧ u < n.places.length ∧ firstCar n (goodReady n p u) = some c ∧ ∀ H1, Same H H1 → Q (.int (c : Nat)) H1
theorem sc_car_to_be_ready : FnScope ["outlook", "place", "other", "ready", "good", "number", "car", "minutes"] ["outlook", "place", "other"] d_car_to_be_ready.scope := ⟨rfl, rfl, rfl, by decide +kernel, rfl, by decide +kernel, by decide +kernel⟩
theorem ok_car_to_be_ready (T : Fx K mg base) : Fn0 P w K mg base 1 "car_to_be_ready" (sp_car_to_be_ready K) := by
  obtain ⟨fd, F⟩ := F_car_to_be_ready T
  refine ⟨⟨_, fd, ["outlook", "place", "other"], F.ok sc_car_to_be_ready (fun vs H Q E h => ?_) (fun cdv A outer s H vs Q E hr h => ⟨_, PSs.nox (pss_cons (ps_set (i := 3) sc_car_to_be_ready.nd rfl (Or.inl rfl) (pe_fld (pe_fld (pv 0) rfl) rfl)) (pss_cons (ps_set (i := 4) sc_car_to_be_ready.nd rfl (Or.inl rfl) (pe_lst (pa_nil))) (pss_cons (ps_for PassesOwn.never rfl (pi_enum (by rfl) (b_enumerate T) (pa_cons (pe_fld (pe_fld (pv 0) rfl) rfl) pa_nil)) (pg_tup rfl (pgs_cons (pg_name (i := 5) sc_car_to_be_ready.nd rfl (Or.inl rfl)) (pgs_cons (pg_name (i := 6) sc_car_to_be_ready.nd rfl (Or.inl rfl)) pgs_nil))) (pss_cons (ps_set (i := 7) sc_car_to_be_ready.nd rfl (Or.inl rfl) (pe_op op_add (pe_fld (pv 6) rfl) (pe_fld (pe_ix ix_list (pe_fld (pe_fld (pv 0) rfl) rfl) (pe_fld (pv 6) rfl) (fun _ _ => rfl)) rfl))) (pss_one (ps_if (PW.pt (pw_and (pt_cmpR op_eq (pe_fld (pv 6) rfl) (pv 1) (nomark _)) (pw_and1 (pt_cmpR op_eq (pe_op op_add (pv 7) (pe_ix ix_list (pe_ix ix_list (pv 3) (pe_fld (pv 6) rfl) (fun _ _ => rfl)) (pv 2) (fun _ _ => rfl))) (pe_ix ix_list (pe_ix ix_list (pv 3) (pv 1) (fun _ _ => rfl)) (pv 2) (fun _ _ => rfl)) (nomark _))))) (pss_one (ps_expr (pe_bm PySem.F.plainAttrs_list PySem.F.slot_list_append PySem.F.type_list_append mt_append (pv 4) (pa_cons (pv 5) pa_nil)))) (pss_nil))))) (pss_one (ps_ret (pe_ix ix_list (pv 4) (pe_int) (fun _ _ => rfl))))))), ?_⟩), g_car_to_be_ready T, F.kp, F.bindsN (fun _ _ _ _ _ _ us hl => match us, hl with | [_, _, _], _ => rfl)⟩⟩
  · obtain ⟨S, a, n, d, ws, p, u, c, rfl, _⟩ := h
    rfl
  · obtain ⟨S, a, n, d, ws, p, u, c, rfl, hA, hp, hu, hc, q⟩ := h
    obtain ⟨na, wa, wl, hO⟩ := id hA
    obtain ⟨dx, e⟩ := hO.own.1
    obtain ⟨dw, ca, ra, ew, _, t1, t2⟩ := hO.ways
    obtain ⟨lp, lc, ld, ⟨⟨⟨dn, en⟩, ea⟩, ⟨ps, ep, rp⟩, ⟨cs, ec, rc⟩, _⟩, _⟩ := hO.net
    refine ⟨_, rfl, a, _, dx, _, _, rfl, e, c_Outlook T, n_Outlook_ways T, rfl, wa, _, dw, _, _, rfl, ew, c_Ways T, n_Ways_ready T, rfl, Nat.zero_le _, fun gl hgl => ?_⟩
    have s0 : Same H (upd H gl (.lst [])) := same_new hgl
    refine ⟨_, rfl, a, _, dx, _, _, rfl, s0 _ _ e, c_Outlook T, n_Outlook_net T, rfl, na, _, dn, _, _, rfl, s0 _ _ en, c_Net T, n_Net_cars T, rfl, lc, cs, rfl, SqL.of (s0 _ _ ec), for_it (walk_enum (xs := cs)) (fun i σ H1 => ∃ v5 v6 v7, σ = [some (.ref a), some (.int (p : Nat)), some (.int (u : Nat)), some (.ref ra), some (.ref gl), v5, v6, v7] ∧ Same H H1 ∧ H1 gl = some (.lst (nv (goodCars n (goodReady n p u) i)))) ⟨none, none, none, rfl, s0, upd_same⟩ (fun i σ H1 _ ⟨_, _, _, _, s, _⟩ => SqL.of (s _ _ ec)) ?_ ?_⟩
    · rintro i x σ H1 H2 hi ⟨v5, v6, v7, rfl, s1, hg⟩ ⟨tp, y, z, rfl, htp, rfl, hy, hz⟩
      obtain rfl := Option.some.inj hy
      obtain ⟨cb, x, rfl, hx, hb⟩ := rc.get hz
      have s2 := same_new (o := .tup [.int (i : Nat), .ref cb]) htp
      have sb := s1.trans s2
      have C := hO.wf.car x (List.mem_of_getElem? hx)
      obtain ⟨dc, sg, f1, _⟩ := hb.keep (Same.keeps sb)
      obtain ⟨pb, dp, sgp, pl, x1, x2, x3, _⟩ := place_get rp C.2.1
      obtain ⟨xs1, b1, e1, e2, e3, e4⟩ := tab_get t2 C.2.1 hu
      obtain ⟨xs2, b2, e5, e6, e7, e8⟩ := tab_get t2 hp hu
      refine ⟨tp, _, rfl, SqT.of upd_same, rfl, _, _, rfl, _, _, rfl, rfl, ?_⟩
      refine ⟨_, rfl, cb, _, dc, _, _, rfl, f1, c_Car T, n_Car_minutes T, rfl, _, rfl, a, _, dx, _, _, rfl, sb _ _ e, c_Outlook T, n_Outlook_net T, rfl, na, _, dn, _, _, rfl, sb _ _ en, c_Net T, n_Net_places T, rfl, _, rfl, cb, _, dc, _, _, rfl, f1, c_Car T, n_Car_end T, rfl, lp, ps, (x.to_ : Int), .ref pb, rfl, rfl, SqL.of (sb _ _ ep), atI_nat x1, pb, _, dp, _, _, rfl, sb _ _ x3, c_Place T, n_Place_handling T, rfl, _, _, rfl, rfl, ?_⟩
      refine ⟨_, rfl, cb, _, dc, _, _, rfl, f1, c_Car T, n_Car_origin T, rfl, _, rfl, rfl, _, rfl, ?_⟩
      have gd : goodReady n p u x = true ↔ x.from_ = p ∧ x.long + Vbtoad.handlingAt n x.to_ + R n x.to_ u = R n p u := goodReady_iff
      have no : goodReady n p u x ≠ true → Same H (upd H1 tp (.tup [.int (i : Nat), .ref cb])) ∧ (upd H1 tp (.tup [.int (i : Nat), .ref cb])) gl = some (.lst (nv (goodCars n (goodReady n p u) (i + 1)))) := fun z => by
        refine ⟨sb, ?_⟩
        rw [goodCars_succ hx, if_neg z, List.append_nil]
        exact s2 _ _ hg
      have hh := handling_is x2
      by_cases c1 : V.int ((x.from_ : Nat) : Int) = V.int ((p : Nat) : Int)
      · refine ifT (decide_eq_true c1) ⟨_, rfl, _, rfl, _, rfl, cb, _, dc, _, _, rfl, f1, c_Car T, n_Car_end T, rfl, ra, xs1, (x.to_ : Int), .ref b1, rfl, rfl, SqL.of (sb _ _ e1), e2, _, rfl, b1, _, (u : Int), _, rfl, rfl, SqL.of (sb _ _ e3), e4, _, _, rfl, rfl, _, rfl, _, rfl, ra, xs2, (p : Int), .ref b2, rfl, rfl, SqL.of (sb _ _ e5), e6, _, rfl, b2, _, (u : Int), _, rfl, rfl, SqL.of (sb _ _ e7), e8, rfl, _, rfl, ?_⟩
        have c0 : x.from_ = p := by
          have := V.int.inj c1
          omega
        by_cases c2 : V.int (((x.long : Nat) : Int) + ((pl.handling : Nat) : Int) + (R n x.to_ u : Int)) = V.int (R n p u : Int)
        · have g1 : goodReady n p u x = true := gd.mpr ⟨c0, by
            have := V.int.inj c2
            omega⟩
          refine ifT (decide_eq_true c2) ⟨_, rfl, .inl ⟨rfl, _, SqL.of (s2 _ _ hg)⟩, _, rfl, gl, _, _, rfl, rfl, s2 _ _ hg, ?_, ?_⟩
          · rw [nv_len]
            refine small1000 (Nat.le_trans (goodCars_len n _ i) ?_)
            have := hO.wf.nc
            have := rc.len
            omega
          · refine ⟨_, _, _, rfl, same_upd hgl sb, ?_⟩
            rw [upd_same, goodCars_succ hx, if_pos g1, nv_append]
            rfl
        · refine ifF (decide_eq_false c2) ⟨_, _, _, rfl, no fun z => c2 ?_⟩
          have := (gd.mp z).2
          congr 1
          omega
      · refine ifF (decide_eq_false c1) (iteF ⟨_, _, _, rfl, no fun z => c1 ?_⟩)
        have := (gd.mp z).1
        congr 1
        omega
    · rintro σ H1 ⟨v5, v6, v7, rfl, s1, hg⟩
      rw [rc.len] at hg
      have h0 : (nv (goodCars n (goodReady n p u) n.cars.length))[0]? = some (.int (c : Nat)) := by
        unfold nv
        rw [List.getElem?_map, goodCars_first hc]
        rfl
      exact ⟨_, rfl, gl, _, 0, _, rfl, rfl, SqL.of hg, atI_nat (j := 0) h0, q H1 s1⟩
end
end SJ
end
section
set_option Elab.async false
set_option linter.all false
set_option maxRecDepth 100000
set_option maxHeartbeats 4000000
/-! Which departure to wait for. -/
namespace SJ
open PySem PySem.Spec PyProof.Rows L2 LamX
theorem best_is (f : Nat → Int) : ∀ j, argBest (fun a b => decide (f a < f b)) j ≤ j ∧ ∀ x, x ≤ j → f (argBest (fun a b => decide (f a < f b)) j) < f x ∨ (f (argBest (fun a b => decide (f a < f b)) j) = f x ∧ argBest (fun a b => decide (f a < f b)) j ≤ x)
  | 0 => ⟨Nat.le_refl _, fun x hx => .inr ⟨by rw [Nat.le_zero.mp hx]; rfl, Nat.zero_le _⟩⟩
  | j + 1 => by
    have ih := best_is f j
    have e : argBest (fun a b => decide (f a < f b)) (j + 1) = if decide (f (j + 1) < f (argBest (fun a b => decide (f a < f b)) j)) = true then j + 1 else argBest (fun a b => decide (f a < f b)) j := rfl
    rw [e]
    by_cases c : f (j + 1) < f (argBest (fun a b => decide (f a < f b)) j)
    · rw [if_pos (decide_eq_true c)]
      refine ⟨Nat.le_refl _, fun x hx => ?_⟩
      rcases Nat.lt_or_ge x (j + 1) with l | l
      · have := ih.2 x (by omega)
        exact .inl (by omega)
      · obtain rfl : x = j + 1 := by omega
        exact .inr ⟨rfl, Nat.le_refl _⟩
    · rw [if_neg (by rw [decide_eq_false c]; exact Bool.false_ne_true)]
      refine ⟨by omega, fun x hx => ?_⟩
      rcases Nat.lt_or_ge x (j + 1) with l | l
      · exact ih.2 x (by omega)
      · obtain rfl : x = j + 1 := by omega
        have := ih.1
        by_cases c2 : f (argBest (fun a b => decide (f a < f b)) j) < f (j + 1)
        · exact .inl c2
        · exact .inr ⟨by omega, by omega⟩
theorem best_first {n : Vbtoad.Net} {gs : List Nat} {m : Nat} (hr : gs.Pairwise (· < ·)) (h : gs[argBest (fun a b => decide ((depAt n (gs.getD a 0) : Int) < (depAt n (gs.getD b 0) : Int))) (gs.length - 1)]? = some m) : IsFirst n gs m := by
  have B := best_is (fun a => (depAt n (gs.getD a 0) : Int)) (gs.length - 1)
  generalize argBest (fun a b => decide ((depAt n (gs.getD a 0) : Int) < (depAt n (gs.getD b 0) : Int))) (gs.length - 1) = b at h B
  have hb : gs.getD b 0 = m := by rw [List.getD_eq_getElem?_getD, h]; rfl
  refine ⟨List.mem_of_getElem? h, fun x hx => ?_⟩
  obtain ⟨j, hj, ej⟩ := List.mem_iff_getElem.mp hx
  have hj2 : gs.getD j 0 = x := by rw [List.getD_eq_getElem?_getD, List.getElem?_eq_getElem hj, ej]; rfl
  have z := B.2 j (by omega)
  rw [hb, hj2] at z
  rcases z with z | ⟨z1, z2⟩
  · exact .inl (by omega)
  · refine .inr ⟨by omega, ?_⟩
    rcases Nat.lt_or_ge b j with l | l
    · have hbl : b < gs.length := (List.getElem?_eq_some_iff.mp h).1
      have := List.pairwise_iff_getElem.mp hr b j hbl hj l
      have e1 : gs[b] = m := by
        have := List.getElem?_eq_getElem hbl
        rw [h] at this
        exact (Option.some.inj this).symm
      omega
    · obtain rfl : b = j := by omega
      rw [hb] at hj2
      omega
section
variable {P : Program} {w : World} {K : PySem.W.Frag} {mg : Str → Option Value} {base : Heap}
def sp_departure_to_take (K : PySem.W.Frag) : Sp := fun vs H Q _ => ∃ (S : List Addr) (a : Addr) (n : Vbtoad.Net) (d : Nat) (ws : List (List Nat)) (k t p : Nat) (row : List Nat) (best i : Nat), vs = [.ref a, .int (k : Nat), .int (t : Nat), .int (p : Nat), .int (best : Nat)] ∧ OutAt K S H a n d ws ∧ ws[k]? = some row ∧ p < n.places.length ∧ Tabs (tabT K) H ∧ Vbtoad.firstGoing n (goodGo n row p t best) = some i ∧
  ∀ H1, ExtN H H1 → Tabs (tabT K) H1 → Q (.int (i : Nat)) H1
theorem sc_departure_to_take : FnScope ["outlook", "k", "minute", "place", "best", "in_time", "good", "departures", "number"] ["outlook", "k", "minute", "place", "best"] d_departure_to_take.scope := ⟨rfl, rfl, rfl, by decide +kernel, rfl, by decide +kernel, by decide +kernel⟩
theorem ok_departure_to_take (T : Fx K mg base) : Fn0 P w K mg base 2 "departure_to_take" (sp_departure_to_take K) := by
  obtain ⟨fd, F⟩ := F_departure_to_take T
  refine ⟨⟨_, fd, ["outlook", "k", "minute", "place", "best"], okC F sc_departure_to_take (fun vs H Q E h => ?_) (fun A outer s H vs Q E hr h => ⟨_, PSs.nox (pss_cons (ps_set (i := 7) sc_departure_to_take.nd rfl (Or.inr rfl) (pe_fld (pe_fld (pv 0) rfl) rfl)) (pss_cons (ps_set (i := 5) sc_departure_to_take.nd rfl (Or.inl rfl) (pe_c0 (ok_departures_in_time T) hr (by decide) rfl (pa_cons (pv 0) (pa_cons (pv 2) (pa_cons (pv 3) pa_nil))))) (pss_cons (ps_setLc (i := 6) (own := [("number", 8)]) (by rfl) sc_departure_to_take.nd rfl rfl (sw_true rfl rfl rfl (by decide +kernel)) (pi_list (pv 5)) (blkOk_by (own := [("number", 8)]) (N := ["outlook", "k", "minute", "place", "best", "in_time", "good", "departures", "number"]) (sc := d_departure_to_take.scope) (by decide +kernel)) (fun _ _ _ _ _ => pg_name (i := 8) sc_departure_to_take.nd rfl (Or.inl rfl)) (fun _ _ _ _ _ => pts_one (pt_cmpR op_eq (pe_ix (ix_listK (K := K) rfl) (pe_ix (ix_listK (K := K) rfl) (pe_fldK (K := K) rfl (pv 0) rfl) (pv 1) (fun _ _ => rfl)) (pv 8) (fun _ _ => rfl)) (pv 4) (nomark _))) (fun _ _ _ _ _ => pv 8)) (pss_one (ps_ret (pe_minLam (T := tabT K) (c := (He.cT K ("departure_to_take", none)).1) (P := (He.cT K ("departure_to_take", none)).2) (i := 7) ⟨rfl, rfl, rfl, by decide +kernel, by decide +kernel, by decide +kernel, by decide +kernel, by decide +kernel, by decide +kernel⟩ rfl hr (by rfl) (b_min T) (pa_cons (pv 6) pa_nil) (T.tab _ (List.mem_map.mpr ⟨("departure_to_take", none), by decide +kernel, rfl⟩)) rfl ?_ ?_ rfl rfl rfl ?_ ?_ (fun _ _ _ _ _ _ => rfl))))))), ?_⟩), g_departure_to_take T, F.kp, F.bindsN (fun _ _ _ _ _ _ us hl => match us, hl with | [_, _, _, _, _], _ => rfl)⟩⟩
  · obtain ⟨S, a, n, d, ws, k, t, p, row, best, i, rfl, _⟩ := h
    rfl
  · exact List.mem_cons_of_mem _ List.mem_cons_self
  · exact tabT_2 T
  · intro cl e
    cases e
    rfl
  · intro y hy e
    revert e
    revert y
    decide +kernel
  · obtain ⟨S, a, n, d, ws, k, t, p, row, best, i0, rfl, hA, hrow, hp, hT, hf, q⟩ := h
    obtain ⟨na, wa, wl, hO⟩ := id hA
    obtain ⟨dx, e⟩ := hO.own.1
    obtain ⟨xs, ex, rx⟩ := hO.ls
    obtain ⟨rb, erb, trb⟩ := rx.at_ k row hrow
    have hlen := hO.lens row (List.mem_of_getElem? hrow)
    obtain ⟨lp, lc, ld, ⟨⟨⟨dn, en⟩, ea⟩, _, _, ⟨ds, ed, rd⟩⟩, _⟩ := hO.net
    refine ⟨_, rfl, a, _, dx, _, _, rfl, e, c_Outlook T, n_Outlook_net T, rfl, na, _, dn, _, _, rfl, en, c_Net T, n_Net_departures T, rfl, ?_⟩
    refine ⟨_, rfl, _, rfl, _, rfl, S, a, n, d, ws, t, p, rfl, hA, hp, fun it H1 s1 nit hit => ?_⟩
    refine ⟨_, rfl, it, rfl, ⟨_, SqL.of hit⟩, fun Dl hD => lc_it (walk_list (xs := nv (inTime n p t))) (fun i H2 => Same H1 H2 ∧ H2 Dl = some (.lst (nv (((inTime n p t).take i).filter fun i => wAt row i == best)))) ⟨same_new hD, upd_same⟩ (fun i H2 _ h => SqL.of (h.1 _ _ hit)) ?_ ?_⟩
    · rintro i v H2 H3 hi ⟨s2, d2⟩ ⟨rfl, hv⟩
      obtain ⟨m, hm, rfl⟩ := nv_get hv
      have ml := inTime_lt (List.mem_of_getElem? hm)
      have sb := s1.trans s2
      have val : atI (nv row) (m : Int) = some (.int (wAt row m : Nat)) := atI_nat (by unfold nv; rw [List.getElem?_map, wAt_get (by rw [hlen]; exact ml)]; rfl)
      have fl : ((inTime n p t).take (i + 1)).filter (fun i => wAt row i == best) = ((inTime n p t).take i).filter (fun i => wAt row i == best) ++ if wAt row m = best then [m] else [] := by
        rw [List.take_add_one, hm, List.filter_append]
        congr 1
        show List.filter _ [m] = _
        rw [List.filter_cons, List.filter_nil]
        by_cases z : wAt row m = best
        · rw [if_pos z, if_pos (by rw [z]; exact beq_self_eq_true _)]
        · rw [if_neg z, if_neg (by rw [beq_eq_false_iff_ne.mpr z]; exact Bool.false_ne_true)]
      refine ⟨rfl, _, rfl, a, _, dx, _, _, rfl, sb _ _ e, c_Outlook T, n_Outlook_worths T, rfl, _, rfl, wl, xs, (k : Int), .ref rb, rfl, rfl, SqL.of (sb _ _ ex), atI_nat erb, _, rfl, rb, _, (m : Int), _, rfl, rfl, SqL.of (sb _ _ trb), val, _, rfl, rfl, _, rfl, ?_⟩
      by_cases c : V.int ((wAt row m : Nat) : Int) = V.int ((best : Nat) : Int)
      · have c0 : wAt row m = best := by
          have := V.int.inj c
          omega
        refine ifT (decide_eq_true c) ⟨_, rfl, _, d2, ?_, same_upd hD s2, ?_⟩
        · rw [nv_len]
          refine small1000 (Nat.le_trans (List.length_filter_le _ _) ?_)
          have l1 := List.length_take_le i (inTime n p t)
          have l2 : (inTime n p t).length ≤ n.goes.length := by
            unfold inTime
            refine Nat.le_trans (List.length_filter_le _ _) ?_
            rw [List.length_range]
            exact Nat.le_refl _
          have := hO.wf.ng
          rw [List.length_take]
          omega
        · rw [upd_same, fl, if_pos c0, nv_append]
          rfl
      · refine ifF (decide_eq_false c) ⟨s2, ?_⟩
        rw [fl, if_neg (fun z => c (by rw [z])), List.append_nil]
        exact d2
    · rintro H2 ⟨s2, d2⟩
      rw [nv_len, List.take_length] at d2
      have sb := s1.trans s2
      have gne : goodGo n row p t best ≠ [] := fun z => by
        rw [z] at hf
        cases hf
      obtain ⟨j, ej, fj⟩ := firstGoing_is (n := n) (goodGo_rising n row p t best) gne
      rw [hf] at ej
      cases ej
      refine ⟨_, rfl, Dl, ld, goodGo n row p t best, ds, _, rfl, SqL.of d2, List.length_pos_iff.mpr gne, fun m hm => ?_, ?_, rfl, SqL.of (sb _ _ ed), keys_go T (rd.mono fun _ _ z => z.keep (Same.keeps sb)), hT.ext sb, fun H3 hE hT3 m hm => ?_⟩
      · rw [rd.len]
        exact inTime_lt (List.mem_filter.mp hm).1
      · rw [rd.len]
        have := hO.wf.ng
        omega
      · have := isFirst_unique (best_first (goodGo_rising n row p t best) hm) fj
        rw [this]
        exact q H3 ((ExtN.of sb).trans hE) hT3
end
end SJ
end
section
set_option Elab.async false
set_option linter.all false
set_option maxRecDepth 100000
set_option maxHeartbeats 4000000
/-! What to do. -/
namespace SJ
open PySem PySem.Spec PyProof.Rows L2 LamX
section
variable {K : PySem.W.Frag} {S : List Addr} {H H1 : Hp}
theorem OutAt.ext {a : Addr} {n : Vbtoad.Net} {d : Nat} {ws : List (List Nat)} (h : OutAt K S H a n d ws) (k : ExtN H H1) : OutAt K S H1 a n d ws := by
  obtain ⟨na, wa, wl, i⟩ := h
  obtain ⟨dx, e⟩ := i.own.1
  obtain ⟨xs, ex, rx⟩ := i.ls
  exact ⟨na, wa, wl, ⟨⟨⟨dx, (Kp.ext (S := []) k).ins e (by simp)⟩, i.own.2⟩, i.net.kp (Kp.ext k), i.ways.kp (Kp.ext k), i.wf, i.goal, ⟨xs, (Kp.ext (S := []) k).lst ex (by simp), rx.mono fun _ _ z => (Kp.ext (S := []) k).lst z (by simp)⟩, i.lens⟩⟩
end
def actKind : Vbtoad.Act → Nat
  | .there => 0
  | .drive _ => 1
  | .wait _ => 2
def actNo : Vbtoad.Act → Nat
  | .there => 0
  | .drive c => c
  | .wait i => i
def ChoiceAt (K : PySem.W.Frag) (H : Hp) (c : Addr) (x : Vbtoad.Act) : Prop := ∃ dx, H c = some (.ins (He.ga K "Choice") dx [("kind", .int (actKind x : Nat)), ("number", .int (actNo x : Nat))])
abbrev cNS (K : PySem.W.Frag) : Value := .ref (He.ga K "NothingSure")
section
variable {P : Program} {w : World} {K : PySem.W.Frag} {mg : Str → Option Value} {base : Heap}
/-- a Choice made -/
theorem choice_made {H : Hp} {x dx : Addr} {a b : Int} {act : Vbtoad.Act} (ea : a = (actKind act : Nat)) (eb : b = (actNo act : Nat)) (hx : H x = none) (hd : H dx = none) (nd : dx ≠ x) {Q : VK}
    (q : ∀ H1, Same H H1 → ChoiceAt K H1 x act → Q (.ref x) H1) :
    sp_Choice_init K (.ref x :: ([V.int a, V.int b] ++ [])) (upd (upd H dx (.own x)) x (.ins (He.ga K "Choice") dx [])) (fun v H2 => v = .non ∧ Q (.ref x) H2) E0 := by
  refine ⟨x, dx, .int a, .int b, rfl, upd_same, fun H1 e1 e2 => ⟨rfl, q H1 (fun c o ec => ?_) ⟨dx, by rw [e1, ea, eb]⟩⟩⟩
  have c1 : c ≠ x := ne_of_none ec hx
  have c2 : c ≠ dx := ne_of_none ec hd
  rw [e2 c c1, upd_ne c1, upd_ne c2]
  exact ec
def sp_what_to_do (K : PySem.W.Frag) : Sp := fun vs H Q E => ∃ (S : List Addr) (a : Addr) (n : Vbtoad.Net) (d : Nat) (ws : List (List Nat)) (k t p : Nat) (row : List Nat), vs = [.ref a, .int (k : Nat), .int (t : Nat), .int (p : Nat)] ∧ OutAt K S H a n d ws ∧ ws[k]? = some row ∧ p < n.places.length ∧ Tabs (tabT K) H ∧
  (toDoM n d row p t = none → ∀ H1, ExtN H H1 → Tabs (tabT K) H1 → E (cNS K) none H1) ∧ (∀ x, toDoM n d row p t = some x → ∀ c H1, ExtN H H1 → Tabs (tabT K) H1 → Fresh H c → ChoiceAt K H1 c x → Q (.ref c) H1)
theorem sc_what_to_do : FnScope ["outlook", "k", "minute", "place", "best", "number", "departure"] ["outlook", "k", "minute", "place"] d_what_to_do.scope := ⟨rfl, rfl, rfl, by decide +kernel, rfl, by decide +kernel, by decide +kernel⟩
theorem ok_what_to_do (T : Fx K mg base) : FnX P w K mg base 3 "what_to_do" (sp_what_to_do K) := by
  obtain ⟨fd, F⟩ := F_what_to_do T
  refine ⟨⟨_, fd, ["outlook", "k", "minute", "place"], F.ok sc_what_to_do (fun vs H Q E h => ?_) (fun cdv A outer s H vs Q E hr h => ⟨_, pss_cons (ps_if (pt_cmpR op_eq (pv 3) (pe_fld (pv 0) rfl) (nomark _)) (pss_one (ps_ret (pe_k0 (ok_Choice_init T) hr (by decide) rfl (pa_cons (C8.pe_gc rfl (i_AT_GOAL T)) (pa_cons (pe_int) pa_nil))))) (pss_nil)) (pss_cons (ps_set (i := 4) sc_what_to_do.nd rfl (Or.inl rfl) (pe_c0 (ok_sure_from T) hr (by decide) rfl (pa_cons (pv 0) (pa_cons (pv 1) (pa_cons (pv 2) (pa_cons (pv 3) pa_nil)))))) (pss_cons (ps_if (pt_cmpR op_eq (pv 4) (C8.pe_gc rfl (i_NEVER T)) (nomark _)) (pss_one (ps_raise0 rfl (T.exc rfl (g_NothingSure T)) (takes_of rfl rfl rfl rfl) rfl)) (pss_nil)) (pss_cons (ps_if (pt_cmpR op_eq (pe_c0 (ok_by_cars_alone T) hr (by decide) rfl (pa_cons (pv 0) (pa_cons (pv 2) (pa_cons (pv 3) pa_nil)))) (pv 4) (nomark _)) (pss_one (ps_ret (pe_k0 (ok_Choice_init T) hr (by decide) rfl (pa_cons (C8.pe_gc rfl (i_BY_CAR T)) (pa_cons (pe_c0 (ok_car_to_goal T) hr (by decide) rfl (pa_cons (pv 0) (pa_cons (pv 3) pa_nil))) pa_nil))))) (pss_nil)) (pss_cons (ps_set (i := 5) sc_what_to_do.nd rfl (Or.inl rfl) (pe_c0 (ok_departure_to_take T) hr (by decide) rfl (pa_cons (pv 0) (pa_cons (pv 1) (pa_cons (pv 2) (pa_cons (pv 3) (pa_cons (pv 4) pa_nil))))))) (pss_cons (ps_set (i := 6) sc_what_to_do.nd rfl (Or.inl rfl) (pe_ix ix_list (pe_fld (pe_fld (pv 0) rfl) rfl) (pv 5) (fun _ _ => rfl))) (pss_cons (ps_if (pt_cmpR op_eq (pe_fld (pv 6) rfl) (pv 3) (nomark _)) (pss_one (ps_ret (pe_k0 (ok_Choice_init T) hr (by decide) rfl (pa_cons (C8.pe_gc rfl (i_BY_DEPARTURE T)) (pa_cons (pv 5) pa_nil))))) (pss_nil)) (pss_one (ps_ret (pe_k0 (ok_Choice_init T) hr (by decide) rfl (pa_cons (C8.pe_gc rfl (i_BY_CAR T)) (pa_cons (pe_c0 (ok_car_to_be_ready T) hr (by decide) rfl (pa_cons (pv 0) (pa_cons (pv 3) (pa_cons (pe_fld (pv 6) rfl) pa_nil)))) pa_nil))))))))))), ?_⟩), g_what_to_do T, F.kp, F.bindsN (fun _ _ _ _ _ _ us hl => match us, hl with | [_, _, _, _], _ => rfl)⟩⟩
  · obtain ⟨S, a, n, d, ws, k, t, p, row, rfl, _⟩ := h
    rfl
  · obtain ⟨S, a, n, d, ws, k, t, p, row, rfl, hA, hrow, hp, hT, qE, qQ⟩ := h
    obtain ⟨na, wa, wl, hO⟩ := id hA
    obtain ⟨dx, e⟩ := hO.own.1
    refine ⟨_, rfl, _, rfl, a, _, dx, _, _, rfl, e, c_Outlook T, n_Outlook_goal T, rfl, rfl, _, rfl, ?_⟩
    by_cases c1 : V.int ((p : Nat) : Int) = V.int ((d : Nat) : Int)
    · have c0 : p = d := by
        have := V.int.inj c1
        omega
      have e0 : toDoM n d row p t = some .there := by
        unfold toDoM
        rw [if_pos c0]
      refine ifT (decide_eq_true c1) (fun x dc hx hd nd => choice_made (act := .there) rfl rfl hx hd nd fun H1 s1 hc => ?_)
      exact qQ _ e0 x H1 (ExtN.of s1) (hT.ext s1) (Fresh.none hx) hc
    · have c0 : p ≠ d := fun z => c1 (by rw [z])
      refine ifF (decide_eq_false c1) ⟨_, rfl, _, rfl, _, rfl, _, rfl, S, a, n, d, ws, k, t, p, row, rfl, hA, hrow, hp, fun H1 s1 => ?_⟩
      refine ⟨_, rfl, rfl, _, rfl, ?_⟩
      by_cases c2 : V.int ((sureM n d row p t : Nat) : Int) = V.int 1000000000
      · have e2 : sureM n d row p t = NEVER := by
          have := V.int.inj c2
          unfold NEVER
          omega
        refine ifT (decide_eq_true c2) (qE ?_ H1 (ExtN.of s1) (hT.ext s1))
        unfold toDoM
        rw [if_neg c0, if_pos e2]
      · have e2 : sureM n d row p t ≠ NEVER := fun z => c2 (by rw [z]; rfl)
        refine ifF (decide_eq_false c2) ⟨_, rfl, _, rfl, _, rfl, S, a, n, d, ws, t, p, rfl, hA.same s1, hp, _, rfl, rfl, _, rfl, ?_⟩
        rcases toDoM_some hO.wf hp c0 e2 with ⟨hc, c, x, hfc, ex, _, e3⟩ | ⟨hc, i, g, ei, eg, hin, h3⟩
        · refine ifT (decide_eq_true (by rw [hc])) ⟨_, rfl, _, rfl, S, a, n, d, ws, p, c, rfl, hA.same s1, hp, hfc, fun H2 s2 => fun x dc hx hd nd => choice_made (act := .drive c) rfl rfl hx hd nd fun H3 s3 hc => ?_⟩
          have sb := (s1.trans s2).trans s3
          exact qQ _ e3 x H3 (ExtN.of sb) (hT.ext sb) (Fresh.none ((s1.trans s2).free hx)) hc
        · refine ifF (decide_eq_false fun z => hc (by have := V.int.inj z; omega)) ⟨_, rfl, _, rfl, _, rfl, _, rfl, _, rfl, S, a, n, d, ws, k, t, p, row, _, i, rfl, hA.same s1, hrow, hp, hT.ext s1, ei, fun H2 k2 t2 => ?_⟩
          have k12 : ExtN H H2 := (ExtN.of s1).trans k2
          have kk : Kp [] H H2 := Kp.ext k12
          obtain ⟨lp, lc, ld, ⟨⟨⟨dn, en⟩, ea⟩, _, _, ⟨ds, ed, rd⟩⟩, _⟩ := hO.net
          obtain ⟨gb, egb, hgb⟩ := rd.at_ i g eg
          obtain ⟨dg, sg, f1, _⟩ := hgb.kp (Kp.ext k12)
          have G := hO.wf.go g (List.mem_of_getElem? eg)
          refine ⟨_, rfl, a, _, dx, _, _, rfl, kk.ins e (by simp), c_Outlook T, n_Outlook_net T, rfl, na, _, dn, _, _, rfl, kk.ins en (by simp), c_Net T, n_Net_departures T, rfl, _, rfl, ld, ds, (i : Int), .ref gb, rfl, rfl, SqL.of (kk.lst ed (by simp)), atI_nat egb, ?_⟩
          refine ⟨_, rfl, gb, _, dg, _, _, rfl, f1, c_Departure T, n_Departure_origin T, rfl, _, rfl, rfl, _, rfl, ?_⟩
          rcases h3 with ⟨h4, e3⟩ | ⟨h4, c, x, hfc, ex, _, e3⟩
          · refine ifT (decide_eq_true (by rw [h4])) ⟨_, rfl, fun x dc hx hd nd => choice_made (act := .wait i) rfl rfl hx hd nd fun H3 s3 hc => ?_⟩
            exact qQ _ e3 x H3 (k12.trans (ExtN.of s3)) (t2.ext s3) (Fresh.back kk (Fresh.none hx)) hc
          · refine ifF (decide_eq_false fun z => h4 (by have := V.int.inj z; omega)) ⟨_, rfl, _, rfl, _, rfl, gb, _, dg, _, _, rfl, f1, c_Departure T, n_Departure_origin T, rfl, S, a, n, d, ws, p, g.from_, c, rfl, hA.ext k12, hp, G.1, hfc, fun H3 s3 => fun x dc hx hd nd => choice_made (act := .drive c) rfl rfl hx hd nd fun H4 s4 hc => ?_⟩
            exact qQ _ e3 x H4 (k12.trans (ExtN.of (s3.trans s4))) (t2.ext (s3.trans s4)) (Fresh.back kk (Fresh.none (s3.free hx))) hc
end
end SJ
end
section
set_option Elab.async false
set_option linter.all false
set_option maxRecDepth 100000
set_option maxHeartbeats 4000000
/-! set(list of ints), and sorted of it -/
namespace SJ
open PySem PySem.Spec PyProof.Rows L2
/-- a set as it is made -/
abbrev set0 (w : World) : Obj := { cls := .type "set", dict := none, data := .set #[] 0 (.fresh 0 0 (!w.params.followText "set-order")) }
section
variable {P : Program} {w : World} {A : Around} {E : Value → Shared → Prop} {s : Shared}
/-- what the set made of ns at S is; c: how many -/
def SetMade (w : World) (s : Shared) (ns : List Int) (t : Shared) : Prop := ∃ (h1 : Heap) (tk c : Nat), t = { s with heap := h1, toks := tk } ∧ SetR w h1 s.heap.objs.size (fun j => decide (j ∈ ns)) c ∧ c ≤ ns.length ∧ ∀ b o, s.heap.get? b = some o → h1.get? b = some o
theorem set_of_list {l : Addr} {items : Array Value} {ns : List Int} {Q : Value → Shared → Prop} (hh : A.handled = none) (hl : s.heap.IsList l items) (hi : IntsAre items.toList ns) (hb : ns.length + 1 < scanBound)
    (fin : ∀ t, SetMade w s ns t → Q (.ref s.heap.objs.size) t) : wpAny (model P w) A (call (.type "set") [.ref l]) Q E s := by
  have len : items.size = ns.length := by simpa using IntsAre.length hi
  obtain ⟨c, tl, m1⟩ := F.called_set.mro
  have m2 := F.called_set.made
  have m3 := F.called_set.sub
  have m4 := F.called_set.notType
  have m5 := F.called_set.canCreate
  have m6 := F.typeCall_set_1 (.ref l)
  refine wpAny_call (codeAny_of_tree (show wpAny _ _ (callAny (.type "set") _) _ _ _ from wpAny_pure ⟨Code.quiet_builtin _ (by decide +kernel), codeAny_builtin F.entry_type_call ?_⟩))
  rw [Around.under_plain (weight_type_call_type "set" [.ref l] []) rfl]
  repeat any_goals (first | assumption | wp_step)
  refine codeAny_mono (code_set_led1 (.ref l) (E := E) (Q₁ := fun v t => v = .ref s.heap.objs.size ∧ t = { s with heap := s.heap.push (set0 w) }) ⟨rfl, rfl⟩) fun r t hr => ?_
  cases r with
  | error _ => exact hr
  | ok fl =>
    cases fl with
    | next => exact hr.elim
    | brk => exact hr.elim
    | cont => exact hr.elim
    | ret v =>
      obtain ⟨rfl, rfl⟩ := hr
      have n1 := F.called_set.init.lookup
      have n2 := F.called_set.init.bind (.ref s.heap.objs.size)
      have at0 : (s.heap.push (set0 w)).get? s.heap.objs.size = some (set0 w) := Heap.get?_push_size _ rfl
      have ty : Shared.TypeIs { s with heap := s.heap.push (set0 w) } (.ref s.heap.objs.size) "set" := ⟨_, at0, rfl⟩
      repeat any_goals (first | assumption | wp_step)
      refine codeAny_mono (codeAny_call_builtin (R := wants (fun v t => v = .none ∧ SetMade w s ns t) E) F.called_set.init.plain F.entry_set_init (check_set_init_1 ty ?_)) fun r2 t2 hr2 => ?_
      · obtain ⟨⟨oc, od, dt, osl⟩, ho, hc, nl, hd⟩ := hl
        dsimp only at hc hd
        subst hc hd
        have ho1 := Heap.get?_push_of_some (set0 w) ho
        have hl1 : (s.heap.push (set0 w)).IsList l items := ⟨_, ho1, rfl, nl, rfl⟩
        have q1 := F.sub_list_set
        have q2 := F.sub_list_frozenset
        have q3 : (Value.type "list" == Value.type "dict") = false := by decide
        have lt : l < s.heap.objs.size := Heap.lt_size ho
        have sz : (s.heap.push (set0 w)).objs.size = s.heap.objs.size + 1 := Heap.size_push ..
        unfold Builtin.«set.__init__» noKeywords Builtin.Frozenset.updateFrom
        generalize eP : pyIter = PI
        wp_walk
        subst eP
        refine wpAny_pyIter_list hl1 (wpAny_bind (wpAny_runValue ?_))
        have hA : A.in1.in1.in1.handled = none := by simp [hh]
        have i1 : l ≠ (s.heap.push (set0 w)).objs.size := by
          rw [sz]
          exact Nat.ne_of_lt (Nat.lt_succ_of_lt lt)
        have i2 : s.heap.objs.size ∉ [(s.heap.push (set0 w)).objs.size, l] := by
          rw [sz]
          intro m
          rcases List.mem_cons.mp m with z | m
          · exact absurd z (Nat.ne_of_lt (Nat.lt_succ_self _))
          · exact absurd (List.mem_singleton.mp m) (Nat.ne_of_gt lt)
        have vals : ∀ i v, items[i]? = some v → ∃ k t, ns[i]? = some k ∧ v = Value.int k t := fun i v hv => by
          have hlt : i < ns.length := by rw [← len]; exact (Array.getElem?_eq_some_iff.mp hv).1
          obtain ⟨t, e⟩ := IntsAre.int_at hi i v (by simpa using hv)
          refine ⟨_, t, List.getElem?_eq_getElem hlt, ?_⟩
          rw [e, List.getD_eq_getElem?_getD, List.getElem?_eq_getElem hlt]
          rfl
        refine set_update_ints ((Walks.list hA _ l i1 items).toS) s.heap.objs.size i2 ns len hb vals (items.size - 0) 0 _ (by omega) (Nat.zero_le _) ⟨⟨_, Heap.get?_push_size _ rfl, rfl, rfl⟩, hl1.push _⟩ ⟨0, Nat.le_refl 0, setR_new_at (Heap.get?_push_of_some _ at0)⟩ fun t c mv hc hR => ?_
        obtain ⟨h1, g1, d1, tk, os1⟩ := t
        obtain rfl : g1 = s.gens := mv.gens
        obtain rfl : d1 = s.drawn := mv.drawn
        obtain rfl : os1 = s.os := mv.os
        refine wpAny_pure (show wpAny _ _ (ret Value.none) _ _ _ from wpAny_pure ⟨rfl, h1, tk, c, rfl, hR, by omega, fun b o e => ?_⟩)
        have bl := Heap.lt_size e
        refine mv.heap b o (fun m => ?_) (Heap.get?_push_of_some _ (Heap.get?_push_of_some _ e))
        rcases List.mem_cons.mp m with z | m
        · exact absurd z (Nat.ne_of_lt bl)
        · have z := List.mem_singleton.mp m
          rw [sz] at z
          exact absurd z (Nat.ne_of_lt (Nat.lt_succ_of_lt bl))
      · cases r2 with
        | error _ => exact hr2
        | ok fl2 =>
          cases fl2 with
          | next => exact hr2.elim
          | brk => exact hr2.elim
          | cont => exact hr2.elim
          | ret v =>
            obtain ⟨rfl, made⟩ := hr2
            obtain ⟨h1, tk, c, rfl, z1, z2, z3⟩ := made
            repeat any_goals (first | assumption | wp_step)
            exact fin _ ⟨h1, tk, c, rfl, z1, z2, z3⟩
end
section
variable {X : Cx}
/-- set(xs): a new set -/
def rSetL (w : World) (K : PySem.W.Frag) : List V → Hp → VK → Prop := fun vs H Q => ∃ (a : Addr) (ns : List Int), vs = [V.ref a] ∧ SqL K H a (ns.map V.int) ∧ ns.length ≤ 60 ∧ ∀ p c, H p = none → c ≤ ns.length → Q (.ref p) (upd H p (SetO w p (fun j => decide (j ∈ ns)) c))
theorem cr_setL (hc : X.calm = true) : CallR X (.type "set") (rSetL X.w X.K) := by
  intro pins s σ H xs us Q I r h
  obtain ⟨a, ns, rfl, hS, hl, q⟩ := h
  rw [Vals.ref1 r]
  obtain ⟨its, rits, hit, hsz⟩ := I.list hS
  refine set_of_list (ns := ns) (I.ok.hd hc) hit.isList (by simpa using ints_of_vals rits) (by unfold scanBound; omega) fun t made => ?_
  obtain ⟨h1, tk, c, rfl, z1, z2, z3⟩ := made
  exact ⟨.ref _, upd H s.heap.objs.size (SetO X.w s.heap.objs.size (fun j => decide (j ∈ ns)) c), I.laid (t' := tk) z3 (Nat.le_refl _) (setO_new z1), rfl, q _ c (I.hok.fresh (Nat.le_refl _)) z2⟩
end
end SJ
end
section
set_option Elab.async false
set_option linter.all false
set_option maxRecDepth 100000
set_option maxHeartbeats 4000000
/-! The minutes at which to start. -/
namespace SJ
open PySem PySem.Spec PyProof.Rows L2 LamX
/-- a list of ints -/
def IntsAt (H : Hp) (p : Addr) (ns : List Int) : Prop := H p = some (.lst (ns.map V.int))
def justs (n : Vbtoad.Net) (p m : Nat) : List Int := (List.range m).map (justAt n p)
theorem justs_succ (n : Vbtoad.Net) (p m : Nat) : justs n p (m + 1) = justs n p m ++ [justAt n p m] := by
  unfold justs
  rw [List.range_succ, List.map_append]
  rfl
theorem justs_len (n : Vbtoad.Net) (p m : Nat) : (justs n p m).length = m := by
  unfold justs
  rw [List.length_map, List.length_range]
theorem justs_get {n : Vbtoad.Net} {p m i : Nat} (h : i < m) : (justs n p m)[i]? = some (justAt n p i) := by
  unfold justs
  rw [List.getElem?_map, List.getElem?_range h]
  rfl
theorem justs_mem {n : Vbtoad.Net} {p m : Nat} (x : Int) : x ∈ justs n p m ↔ ∃ i, i < m ∧ justAt n p i = x := by
  unfold justs
  rw [List.mem_map]
  constructor
  · rintro ⟨i, hi, e⟩
    exact ⟨i, List.mem_range.mp hi, e⟩
  · rintro ⟨i, hi, e⟩
    exact ⟨i, List.mem_range.mpr hi, e⟩
section
variable {P : Program} {w : World} {K : PySem.W.Frag} {mg : Str → Option Value} {base : Heap}
def sp_minutes_just_in_time (K : PySem.W.Frag) : Sp := fun vs H Q _ => ∃ (S : List Addr) (a : Addr) (n : Vbtoad.Net) (d : Nat) (ws : List (List Nat)) (p : Nat), vs = [.ref a, .int (p : Nat)] ∧ OutAt K S H a n d ws ∧ p < n.places.length ∧ ∀ l H1, Same H H1 → H l = none → IntsAt H1 l (justs n p n.goes.length) → Q (.ref l) H1
theorem sc_minutes_just_in_time : FnScope ["outlook", "place", "ready", "departure"] ["outlook", "place"] d_minutes_just_in_time.scope := ⟨rfl, rfl, rfl, by decide +kernel, rfl, by decide +kernel, by decide +kernel⟩
theorem ok_minutes_just_in_time (T : Fx K mg base) : Fn0 P w K mg base 1 "minutes_just_in_time" (sp_minutes_just_in_time K) := by
  obtain ⟨fd, F⟩ := F_minutes_just_in_time T
  refine ⟨⟨_, fd, ["outlook", "place"], F.ok sc_minutes_just_in_time (fun vs H Q E h => ?_) (fun cdv A outer s H vs Q E hr h => ⟨_, PSs.nox (pss_cons (ps_set (i := 2) sc_minutes_just_in_time.nd rfl (Or.inr rfl) (pe_ix ix_list (pe_fld (pe_fld (pv 0) rfl) rfl) (pv 1) (fun _ _ => rfl))) (pss_one (ps_ret (pe_lc (own := [("departure", 3)]) (by rfl) sc_minutes_just_in_time.nd (pi_list (pe_fld (pe_fld (pv 0) rfl) rfl)) (blkOk_by (own := [("departure", 3)]) (N := ["outlook", "place", "ready", "departure"]) (sc := d_minutes_just_in_time.scope) (by decide +kernel)) (fun _ _ _ _ _ => pg_name (i := 3) sc_minutes_just_in_time.nd rfl (Or.inl rfl)) (fun _ _ _ _ _ => pts_nil) (fun _ _ _ _ _ => pe_op op_sub (pe_fldK (K := K) rfl (pv 3) rfl) (pe_ix (ix_listK (K := K) rfl) (pv 2) (pe_fldK (K := K) rfl (pv 3) rfl) (fun _ _ => rfl))))))), ?_⟩), g_minutes_just_in_time T, F.kp, F.bindsN (fun _ _ _ _ _ _ us hl => match us, hl with | [_, _], _ => rfl)⟩⟩
  · obtain ⟨S, a, n, d, ws, p, rfl, _⟩ := h
    rfl
  · obtain ⟨S, a, n, d, ws, p, rfl, ⟨na, wa, wl, hO⟩, hp, q⟩ := h
    obtain ⟨dx, e⟩ := hO.own.1
    obtain ⟨dw, ca, ra, ew, _, t1, t2⟩ := hO.ways
    obtain ⟨xs, b, e1, e2, e3, _⟩ := tab_get t2 hp hp
    obtain ⟨lp, lc, ld, ⟨⟨⟨dn, en⟩, ea⟩, _, _, ⟨ds, ed, rd⟩⟩, _⟩ := hO.net
    refine ⟨_, rfl, a, _, dx, _, _, rfl, e, c_Outlook T, n_Outlook_ways T, rfl, wa, _, dw, _, _, rfl, ew, c_Ways T, n_Ways_ready T, rfl, _, rfl, ra, xs, (p : Int), .ref b, rfl, rfl, SqL.of e1, e2, ?_⟩
    refine ⟨_, rfl, a, _, dx, _, _, rfl, e, c_Outlook T, n_Outlook_net T, rfl, na, _, dn, _, _, rfl, en, c_Net T, n_Net_departures T, rfl, ?_⟩
    refine ⟨ld, rfl, ⟨_, SqL.of ed⟩, fun Dl hD => lc_it (walk_list (xs := ds)) (fun i H1 => Same H H1 ∧ IntsAt H1 Dl (justs n p i)) ⟨same_new hD, upd_same⟩ (fun i H1 _ h => SqL.of (h.1 _ _ ed)) ?_ ?_⟩
    · rintro i v H1 H2 hi ⟨s1, d1⟩ ⟨rfl, hz⟩
      obtain ⟨gb, g, rfl, hg, hb⟩ := rd.get hz
      obtain ⟨dg, sg, f1, _⟩ := hb.keep (Same.keeps s1)
      have G := hO.wf.go g (List.mem_of_getElem? hg)
      have val : atI (nv ((List.range n.places.length).map (R n p))) (g.from_ : Int) = some (.int (R n p g.from_ : Nat)) := atI_nat (by unfold nv; rw [List.getElem?_map, rangeMap_get _ G.1]; rfl)
      refine ⟨rfl, lcYes ⟨_, rfl, gb, _, dg, _, _, rfl, f1, c_Departure T, n_Departure_leaves T, rfl, _, rfl, _, rfl, gb, _, dg, _, _, rfl, f1, c_Departure T, n_Departure_origin T, rfl, b, _, (g.from_ : Int), _, rfl, rfl, SqL.of (s1 _ _ e3), val, _, _, rfl, rfl, _, d1, ?_, same_upd hD s1, ?_⟩⟩
      · rw [List.length_map, justs_len]
        have := hO.wf.ng
        have := rd.len
        exact small1000 (by omega)
      · unfold IntsAt
        rw [upd_same, justs_succ, justAt_of hg, List.map_append]
        rfl
    · rintro H1 ⟨s1, d1⟩
      rw [rd.len] at d1
      exact q Dl H1 s1 hD d1
def sp_last_start (K : PySem.W.Frag) : Sp := fun vs H Q _ => ∃ (S : List Addr) (a : Addr) (n : Vbtoad.Net) (d : Nat) (ws : List (List Nat)) (k limit p : Nat) (row : List Nat), vs = [.ref a, .int (k : Nat), .int (limit : Nat), .int (p : Nat)] ∧ OutAt K S H a n d ws ∧ ws[k]? = some row ∧ p < n.places.length ∧ ∀ H1, Same H H1 → Q (.int (lastM n d row p limit n.goes.length)) H1
theorem sc_last_start : FnScope ["outlook", "k", "limit", "place", "latest", "minute", "worth"] ["outlook", "k", "limit", "place"] d_last_start.scope := ⟨rfl, rfl, rfl, by decide +kernel, rfl, by decide +kernel, by decide +kernel⟩
theorem ok_last_start (T : Fx K mg base) : Fn0 P w K mg base 2 "last_start" (sp_last_start K) := by
  obtain ⟨fd, F⟩ := F_last_start T
  refine ⟨⟨_, fd, ["outlook", "k", "limit", "place"], F.ok sc_last_start (fun vs H Q E h => ?_) (fun cdv A outer s H vs Q E hr h => ⟨_, PSs.nox (pss_cons (ps_set (i := 4) sc_last_start.nd rfl (Or.inl rfl) (pe_op op_sub (pv 2) (pe_ix ix_list (pe_ix ix_list (pe_fld (pe_fld (pv 0) rfl) rfl) (pv 3) (fun _ _ => rfl)) (pe_fld (pv 0) rfl) (fun _ _ => rfl)))) (pss_cons (ps_for PassesOwn.never rfl (pi_zip (by rfl) (b_zip T) (pa_cons (pe_c0 (ok_minutes_just_in_time T) hr (by decide) rfl (pa_cons (pv 0) (pa_cons (pv 3) pa_nil))) (pa_cons (pe_ix ix_list (pe_fld (pv 0) rfl) (pv 1) (fun _ _ => rfl)) pa_nil))) (pg_tup rfl (pgs_cons (pg_name (i := 5) sc_last_start.nd rfl (Or.inl rfl)) (pgs_cons (pg_name (i := 6) sc_last_start.nd rfl (Or.inl rfl)) pgs_nil))) (pss_one (ps_if (pt_cmpR op_le (pv 6) (pv 2) (nomark _)) (pss_one (ps_set (i := 4) sc_last_start.nd rfl (Or.inl rfl) (pe_callB (call_max2 rfl) (by rfl) (b_max T) (by decide +kernel) (pa_cons (pv 4) (pa_cons (pv 5) pa_nil))))) (pss_nil)))) (pss_one (ps_ret (pv 4))))), ?_⟩), g_last_start T, F.kp, F.bindsN (fun _ _ _ _ _ _ us hl => match us, hl with | [_, _, _, _], _ => rfl)⟩⟩
  · obtain ⟨S, a, n, d, ws, k, limit, p, row, rfl, _⟩ := h
    rfl
  · obtain ⟨S, a, n, d, ws, k, limit, p, row, rfl, hA, hrow, hp, q⟩ := h
    obtain ⟨na, wa, wl, hO⟩ := id hA
    obtain ⟨dx, e⟩ := hO.own.1
    obtain ⟨dw, ca, ra, ew, _, t1, t2⟩ := hO.ways
    obtain ⟨xs1, b, e1, e2, e3, e4⟩ := tab_get t1 hp hO.goal
    obtain ⟨xs, ex, rx⟩ := hO.ls
    obtain ⟨rb, erb, trb⟩ := rx.at_ k row hrow
    have hlen := hO.lens row (List.mem_of_getElem? hrow)
    refine ⟨_, rfl, _, rfl, a, _, dx, _, _, rfl, e, c_Outlook T, n_Outlook_ways T, rfl, wa, _, dw, _, _, rfl, ew, c_Ways T, n_Ways_coming T, rfl, _, rfl, ca, xs1, (p : Int), .ref b, rfl, rfl, SqL.of e1, e2, _, rfl, a, _, dx, _, _, rfl, e, c_Outlook T, n_Outlook_goal T, rfl, b, _, (d : Int), _, rfl, rfl, SqL.of e3, e4, _, _, rfl, rfl, ?_⟩
    refine ⟨_, rfl, _, rfl, S, a, n, d, ws, p, rfl, hA, hp, fun l H1 s1 nl hl => ?_⟩
    refine ⟨_, rfl, a, _, dx, _, _, rfl, s1 _ _ e, c_Outlook T, n_Outlook_worths T, rfl, _, rfl, wl, xs, (k : Int), .ref rb, rfl, rfl, SqL.of (s1 _ _ ex), atI_nat erb, l, rb, _, _, rfl, SqL.of hl, SqL.of (s1 _ _ trb), ?_⟩
    refine for_it (walk_zip (xs := (justs n p n.goes.length).map V.int) (ys := nv row) (n := n.goes.length) (by rw [nv_len, List.length_map, justs_len, hlen]; omega)) (fun i σ H2 => ∃ v5 v6, σ = [some (.ref a), some (.int (k : Nat)), some (.int (limit : Nat)), some (.int (p : Nat)), some (.int (lastM n d row p limit i)), v5, v6] ∧ Same H1 H2) ⟨none, none, rfl, Same.refl H1⟩ (fun i σ H2 _ ⟨_, _, _, s⟩ => ⟨SqL.of (s _ _ hl), SqL.of (s _ _ (s1 _ _ trb))⟩) ?_ ?_
    · rintro i x σ H2 H3 hi ⟨v5, v6, rfl, s2⟩ ⟨tp, y, z, rfl, htp, rfl, hy, hz⟩
      have hy2 : ((justs n p n.goes.length).map V.int)[i]? = some y := hy
      rw [List.getElem?_map, justs_get hi] at hy2
      obtain rfl := Option.some.inj hy2
      obtain ⟨m, hm, rfl⟩ := nv_get hz
      have em : wAt row i = m := by
        unfold wAt
        rw [hm]
        rfl
      have s3 := same_new (o := .tup [.int (justAt n p i), .int (m : Nat)]) htp
      refine ⟨tp, _, rfl, SqT.of upd_same, rfl, _, _, rfl, _, _, rfl, rfl, ?_⟩
      refine ⟨_, rfl, _, rfl, _, _, rfl, rfl, _, rfl, ?_⟩
      by_cases c : (m : Int) ≤ (limit : Int)
      · refine ifT (decide_eq_true c) ⟨_, rfl, _, rfl, _, _, rfl, ?_⟩
        refine ⟨some (.int (justAt n p i)), some (.int (m : Nat)), ?_, s2.trans s3⟩
        have ev : (if justAt n p i > lastM n d row p limit i then justAt n p i else lastM n d row p limit i) = max (lastM n d row p limit i) (justAt n p i) := by
          split <;> omega
        rw [lastM_succ, if_pos (show wAt row i ≤ limit by omega), ← ev]
        rfl
      · refine ifF (decide_eq_false c) ⟨some (.int (justAt n p i)), some (.int (m : Nat)), ?_, s2.trans s3⟩
        rw [lastM_succ, if_neg (show ¬ wAt row i ≤ limit by omega)]
        rfl
    · rintro σ H2 ⟨v5, v6, rfl, s2⟩
      exact ⟨_, rfl, q H2 (s1.trans s2)⟩
def sp_is_worth_telling (K : PySem.W.Frag) : Sp := fun vs H Q _ => ∃ (S : List Addr) (a : Addr) (n : Vbtoad.Net) (d : Nat) (ws : List (List Nat)) (k t p : Nat) (row : List Nat), vs = [.ref a, .int (k : Nat), .int (t : Nat), .int (p : Nat)] ∧ OutAt K S H a n d ws ∧ ws[k]? = some row ∧ p < n.places.length ∧ ∀ H1, Same H H1 → Q (.bl (tells n d row p t)) H1
theorem sc_is_worth_telling : FnScope ["outlook", "k", "minute", "place", "best"] ["outlook", "k", "minute", "place"] d_is_worth_telling.scope := ⟨rfl, rfl, rfl, by decide +kernel, rfl, by decide +kernel, by decide +kernel⟩
theorem ok_is_worth_telling (T : Fx K mg base) : Fn0 P w K mg base 3 "is_worth_telling" (sp_is_worth_telling K) := by
  obtain ⟨fd, F⟩ := F_is_worth_telling T
  refine ⟨⟨_, fd, ["outlook", "k", "minute", "place"], F.ok sc_is_worth_telling (fun vs H Q E h => ?_) (fun cdv A outer s H vs Q E hr h => ⟨_, PSs.nox (pss_cons (ps_set (i := 4) sc_is_worth_telling.nd rfl (Or.inl rfl) (pe_c0 (ok_sure_from T) hr (by decide) rfl (pa_cons (pv 0) (pa_cons (pv 1) (pa_cons (pv 2) (pa_cons (pv 3) pa_nil)))))) (pss_cons (ps_if (pt_cmpR op_ge (pv 4) (pe_c0 (ok_by_cars_alone T) hr (by decide) rfl (pa_cons (pv 0) (pa_cons (pv 2) (pa_cons (pv 3) pa_nil)))) (nomark _)) (pss_one (ps_ret (pe_bl))) (pss_nil)) (pss_one (ps_ret (pe_cmpR op_gt (pe_c0 (ok_sure_from T) hr (by decide) rfl (pa_cons (pv 0) (pa_cons (pv 1) (pa_cons (pe_op op_add (pv 2) (pe_int)) (pa_cons (pv 3) pa_nil))))) (pv 4) (nomark _)))))), ?_⟩), g_is_worth_telling T, F.kp, F.bindsN (fun _ _ _ _ _ _ us hl => match us, hl with | [_, _, _, _], _ => rfl)⟩⟩
  · obtain ⟨S, a, n, d, ws, k, t, p, row, rfl, _⟩ := h
    rfl
  · obtain ⟨S, a, n, d, ws, k, t, p, row, rfl, hA, hrow, hp, q⟩ := h
    refine ⟨_, rfl, _, rfl, _, rfl, _, rfl, S, a, n, d, ws, k, t, p, row, rfl, hA, hrow, hp, fun H1 s1 => ?_⟩
    refine ⟨_, rfl, _, rfl, _, rfl, _, rfl, S, a, n, d, ws, t, p, rfl, hA.same s1, hp, _, _, rfl, rfl, _, rfl, ?_⟩
    by_cases c : ((carsAlone n d p t : Nat) : Int) ≤ ((sureM n d row p t : Nat) : Int)
    · have e : tells n d row p t = false := by
        rw [Bool.eq_false_iff]
        intro z
        have := (tells_iff.mp z).1
        omega
      have q := q H1 s1
      rw [e] at q
      exact ifT (decide_eq_true c) q
    · refine ifF (decide_eq_false c) ⟨_, rfl, _, rfl, _, rfl, _, _, rfl, rfl, _, rfl, S, a, n, d, ws, k, t + 1, p, row, rfl, hA.same s1, hrow, hp, fun H2 s2 => ?_⟩
      refine ⟨_, rfl, _, _, rfl, rfl, ?_⟩
      have e : decide (((sureM n d row p (t + 1) : Nat) : Int) > ((sureM n d row p t : Nat) : Int)) = tells n d row p t := by
        by_cases z : tells n d row p t = true
        · rw [z]
          have := (tells_iff.mp z).2
          exact decide_eq_true (by omega)
        · rw [Bool.eq_false_iff.mpr z]
          refine decide_eq_false fun y => z (tells_iff.mpr ⟨by omega, by omega⟩)
      show Q (.bl (decide (((sureM n d row p (t + 1) : Nat) : Int) > ((sureM n d row p t : Nat) : Int)))) H2
      rw [e]
      exact q H2 (s1.trans s2)
/-- the minutes that are told, of rising ones -/
def toldOf (n : Vbtoad.Net) (d : Nat) (row : List Nat) (p : Nat) (ns : List Int) : List Int := ns.filter fun x => decide (0 ≤ x) && tells n d row p x.toNat
def sp_profile_minutes (K : PySem.W.Frag) : Sp := fun vs H Q _ => ∃ (S : List Addr) (a : Addr) (n : Vbtoad.Net) (d : Nat) (ws : List (List Nat)) (k p : Nat) (row : List Nat), vs = [.ref a, .int (k : Nat), .int (p : Nat)] ∧ OutAt K S H a n d ws ∧ ws[k]? = some row ∧ p < n.places.length ∧ ∀ ns l H1, ns.Pairwise (· < ·) → (∀ x, x ∈ ns ↔ x ∈ justs n p n.goes.length) → Same H H1 → H l = none → IntsAt H1 l (toldOf n d row p ns) → Q (.ref l) H1
theorem sc_profile_minutes : FnScope ["outlook", "k", "place", "minutes", "minute"] ["outlook", "k", "place"] d_profile_minutes.scope := ⟨rfl, rfl, rfl, by decide +kernel, rfl, by decide +kernel, by decide +kernel⟩
theorem ok_profile_minutes (T : Fx K mg base) : Fn0 P w K mg base 4 "profile_minutes" (sp_profile_minutes K) := by
  obtain ⟨fd, F⟩ := F_profile_minutes T
  refine ⟨⟨_, fd, ["outlook", "k", "place"], F.ok sc_profile_minutes (fun vs H Q E h => ?_) (fun cdv A outer s H vs Q E hr h => ⟨_, PSs.nox (pss_cons (ps_set (i := 3) sc_profile_minutes.nd rfl (Or.inl rfl) (pe_callB (cr_sortedSet rfl) (by rfl) (b_sorted T) (by decide +kernel) (pa_cons (pe_callTy (cr_setL rfl) (by rfl) (b_set T) (by decide +kernel) (pa_cons (pe_c0 (ok_minutes_just_in_time T) hr (by decide) rfl (pa_cons (pv 0) (pa_cons (pv 2) pa_nil))) pa_nil)) pa_nil))) (pss_one (ps_ret (pe_lc (own := [("minute", 4)]) (by rfl) sc_profile_minutes.nd (pi_list (pv 3)) (blkOk_by (own := [("minute", 4)]) (N := ["outlook", "k", "place", "minutes", "minute"]) (sc := d_profile_minutes.scope) (by decide +kernel)) (fun _ _ _ _ _ => pg_name (i := 4) sc_profile_minutes.nd rfl (Or.inl rfl)) (fun _ _ _ _ _ => pts_one (PW.pt (pw_and (pt_cmpR op_ge (pv 4) (pe_int) (nomark _)) (pw_and1 (pt_val (pe_c0 (ok_is_worth_telling T) hr (by decide) rfl (pa_cons (pv 0) (pa_cons (pv 1) (pa_cons (pv 4) (pa_cons (pv 2) pa_nil)))))))))) (fun _ _ _ _ _ => pv 4))))), ?_⟩), g_profile_minutes T, F.kp, F.bindsN (fun _ _ _ _ _ _ us hl => match us, hl with | [_, _, _], _ => rfl)⟩⟩
  · obtain ⟨S, a, n, d, ws, k, p, row, rfl, _⟩ := h
    rfl
  · obtain ⟨S, a, n, d, ws, k, p, row, rfl, hA, hrow, hp, q⟩ := h
    obtain ⟨na, wa, wl, hO⟩ := id hA
    have g30 := hO.wf.ng
    refine ⟨_, rfl, _, rfl, S, a, n, d, ws, p, rfl, hA, hp, fun l H1 s1 nl hl => ?_⟩
    refine ⟨l, justs n p n.goes.length, rfl, SqL.of hl, by rw [justs_len]; omega, fun st c hst hc => ?_⟩
    rw [justs_len] at hc
    have s2 : Same H1 (upd H1 st (SetO w st (fun j => decide (j ∈ justs n p n.goes.length)) c)) := same_new hst
    refine ⟨st, _, c, rfl, upd_same, by omega, fun ns so hs hm hl2 hso => ?_⟩
    have hm2 : ∀ x, x ∈ ns ↔ x ∈ justs n p n.goes.length := fun x => (hm x).trans decide_eq_true_iff
    let H3 : Hp := upd (upd H1 st (SetO w st (fun j => decide (j ∈ justs n p n.goes.length)) c)) so (.lst (ns.map V.int))
    have s3 : Same H H3 := (s1.trans s2).trans (same_new hso)
    have hso3 : H3 so = some (.lst (ns.map V.int)) := upd_same
    refine ⟨_, rfl, so, rfl, ⟨_, SqL.of hso3⟩, fun Dl hD => lc_it (walk_list (xs := ns.map V.int)) (fun i H4 => Same H3 H4 ∧ IntsAt H4 Dl (toldOf n d row p (ns.take i))) ⟨same_new hD, upd_same⟩ (fun i H4 _ h => SqL.of (h.1 _ _ hso3)) ?_ ?_⟩
    · rintro i v H4 H5 hi ⟨s4, d4⟩ ⟨rfl, hv⟩
      rw [List.getElem?_map] at hv
      obtain ⟨x, hx, rfl⟩ := Option.map_eq_some_iff.mp hv
      have fl : toldOf n d row p (ns.take (i + 1)) = toldOf n d row p (ns.take i) ++ if (decide (0 ≤ x) && tells n d row p x.toNat) = true then [x] else [] := by
        unfold toldOf
        rw [List.take_add_one, hx, List.filter_append]
        congr 1
        show List.filter _ [x] = _
        rw [List.filter_cons, List.filter_nil]
      have sm : (toldOf n d row p (ns.take i)).length ≤ 1000 := by
        unfold toldOf
        refine Nat.le_trans (List.length_filter_le _ _) ?_
        rw [List.length_take]
        omega
      refine ⟨rfl, _, rfl, _, _, rfl, rfl, _, rfl, ?_⟩
      by_cases c0 : (0 : Int) ≤ x
      · have ex : x = ((x.toNat : Nat) : Int) := by omega
        refine ifT (decide_eq_true c0) ⟨_, rfl, _, rfl, _, rfl, _, rfl, S, a, n, d, ws, k, x.toNat, p, row, ?_, hA.same (s3.trans s4), hrow, hp, fun H6 s6 => ⟨_, rfl, ?_⟩⟩
        · show [V.ref a, V.int (k : Int), V.int x, V.int (p : Int)] = _
          rw [← ex]
        · by_cases ct : tells n d row p x.toNat = true
          · refine ifT ct ⟨_, rfl, _, s6 _ _ d4, ?_, same_upd hD (s4.trans s6), ?_⟩
            · rw [List.length_map]
              exact small1000 sm
            · unfold IntsAt
              rw [upd_same, fl, if_pos (by rw [ct, decide_eq_true c0]; rfl), List.map_append]
              rfl
          · refine ifF (Bool.eq_false_iff.mpr ct) ⟨s4.trans s6, ?_⟩
            rw [fl, if_neg (fun z => ct (Bool.and_eq_true_iff.mp z).2), List.append_nil]
            exact s6 _ _ d4
      · refine ifF (decide_eq_false c0) (iteF ⟨s4, ?_⟩)
        rw [fl, if_neg (fun z => c0 (of_decide_eq_true (Bool.and_eq_true_iff.mp z).1)), List.append_nil]
        exact d4
    · rintro H4 ⟨s4, d4⟩
      rw [List.length_map, List.take_length] at d4
      exact q ns Dl H4 hs hm2 (s3.trans s4) (s3.free hD) d4
end
end SJ
end
section
set_option Elab.async false
set_option linter.all false
set_option maxRecDepth 100000
set_option maxHeartbeats 4000000
/-! Who travels: the steps. -/
namespace SJ
open PySem PySem.Spec PyProof.Rows L2 LamX
def stepNums (l : List Vbtoad.Step) : List Nat := l.flatMap fun s => [s.kind, s.which, s.at_]
theorem stepNums_snoc (l : List Vbtoad.Step) (x : Vbtoad.Step) : stepNums (l ++ [x]) = stepNums l ++ [x.kind, x.which, x.at_] := by
  unfold stepNums
  rw [List.flatMap_append]
  rfl
theorem stepNums_len : ∀ l : List Vbtoad.Step, (stepNums l).length = 3 * l.length
  | [] => rfl
  | x :: l => by
    have ih := stepNums_len l
    unfold stepNums at ih ⊢
    rw [List.flatMap_cons, List.length_append, ih]
    simp only [List.length_cons, List.length_nil]
    omega
section
variable (K : PySem.W.Frag) (H : Hp)
def TrObj (tr dx sl : Addr) (s : At) : HO := .ins (He.ga K "Traveller") dx [("k", .int (s.k : Nat)), ("minute", .int (s.t : Nat)), ("place", .int (s.p : Nat)), ("steps", .ref sl)]
def TrIs (tr sl : Addr) (s : At) (l : List Vbtoad.Step) : Prop := (∃ dx, H tr = some (.ins (He.ga K "Traveller") dx [("k", .int (s.k : Nat)), ("minute", .int (s.t : Nat)), ("place", .int (s.p : Nat)), ("steps", .ref sl)])) ∧ H sl = some (.lst (nv (stepNums l)))
end
section
variable {K : PySem.W.Frag} {S : List Addr} {H H1 : Hp}
theorem TrIs.ext {tr sl : Addr} {s : At} {l : List Vbtoad.Step} (h : TrIs K H tr sl s l) (k : Kp [] H H1) : TrIs K H1 tr sl s l := ⟨let ⟨dx, e⟩ := h.1; ⟨dx, k.ins e (by simp)⟩, k.lst h.2 (by simp)⟩
theorem OutIs.less {S' : List Addr} {a na wa wl : Addr} {n : Vbtoad.Net} {d : Nat} {ws : List (List Nat)} (h : OutIs K S H a na wa wl n d ws) (k : ∀ c, c ∉ S → c ∉ S') : OutIs K S' H a na wa wl n d ws := ⟨⟨h.own.1, k _ h.own.2⟩, h.net.less k, h.ways.less k, h.wf, h.goal, h.ls, h.lens⟩
end
section
variable {P : Program} {w : World} {K : PySem.W.Frag} {mg : Str → Option Value} {base : Heap}
def sp_Traveller_init (K : PySem.W.Frag) : Sp := fun vs H Q _ => ∃ (tr dx : Addr) (s : At), vs = [.ref tr, .int (s.k : Nat), .int (s.t : Nat), .int (s.p : Nat)] ∧ H tr = some (.ins (He.ga K "Traveller") dx []) ∧ ∀ H1 sl, Keeps [tr] H H1 → TrIs K H1 tr sl s [] → H sl = none → Q .non H1
theorem sc_Traveller_init : FnScope ["self", "k", "minute", "place"] ["self", "k", "minute", "place"] d_Traveller_init.scope := ⟨rfl, rfl, rfl, by decide +kernel, rfl, by decide +kernel, by decide +kernel⟩
theorem ok_Traveller_init (T : Fx K mg base) : Mk0 P w K mg base 1 "Traveller" (sp_Traveller_init K) := by
  obtain ⟨fd, F⟩ := F_Traveller_init T
  refine ⟨⟨_, fd, ["self", "k", "minute", "place"], m_Traveller T, F.ok sc_Traveller_init (fun vs H Q E h => ?_) (fun cdv A outer s H vs Q E hr h => ⟨_, PSs.nox (pss_cons (ps_fld (pv 0) (pv 1) rfl) (pss_cons (ps_fld (pv 0) (pv 2) rfl) (pss_cons (ps_fld (pv 0) (pv 3) rfl) (pss_one (ps_fld (pv 0) (pe_lst (pa_nil)) rfl))))), ?_⟩), g_Traveller T, F.bindsN (fun _ _ _ _ _ _ us hl => match us, hl with | [_, _, _, _], _ => rfl)⟩⟩
  · obtain ⟨tr, dx, s0, rfl, _⟩ := h
    rfl
  · obtain ⟨tr, dx, s0, rfl, hp, q⟩ := h
    refine ⟨_, rfl, _, rfl, tr, _, dx, _, rfl, hp, c_Traveller T, n_Traveller_k T, (by show 0 < 1000; decide), ?_⟩
    refine ⟨_, rfl, _, rfl, tr, _, dx, _, rfl, upd_same, c_Traveller T, n_Traveller_minute T, (by show 1 < 1000; decide), ?_⟩
    refine ⟨_, rfl, _, rfl, tr, _, dx, _, rfl, upd_same, c_Traveller T, n_Traveller_place T, (by show 2 < 1000; decide), ?_⟩
    let A3 : Hp := upd (upd (upd H tr (.ins (He.ga K "Traveller") dx [("k", .int (s0.k : Nat))])) tr (.ins (He.ga K "Traveller") dx [("k", .int (s0.k : Nat)), ("minute", .int (s0.t : Nat))])) tr (.ins (He.ga K "Traveller") dx [("k", .int (s0.k : Nat)), ("minute", .int (s0.t : Nat)), ("place", .int (s0.p : Nat))])
    have a3 : A3 tr = some (.ins (He.ga K "Traveller") dx [("k", .int (s0.k : Nat)), ("minute", .int (s0.t : Nat)), ("place", .int (s0.p : Nat))]) := upd_same
    have k3 : Keeps [tr] H A3 := ((keeps_upd (by simp)).trans (keeps_upd (by simp))).trans (keeps_upd (by simp))
    refine ⟨Nat.zero_le _, fun sl hsl => ?_⟩
    have hne : tr ≠ sl := ne_of_none a3 hsl
    have hslH : H sl = none := by
      have : A3 sl = H sl := by
        show (upd (upd (upd H tr _) tr _) tr _) sl = _
        rw [upd_ne (Ne.symm hne), upd_ne (Ne.symm hne), upd_ne (Ne.symm hne)]
      rw [← this]
      exact hsl
    refine ⟨_, rfl, tr, _, dx, _, rfl, (upd_ne hne).trans a3, c_Traveller T, n_Traveller_steps T, (by show 3 < 1000; decide), ?_⟩
    refine q _ sl ((k3.trans (Same.keeps (same_new hsl))).trans (keeps_upd (by simp))) ⟨⟨dx, upd_same⟩, ?_⟩ hslH
    rw [upd_ne (Ne.symm hne)]
    exact upd_same
def sp_come_to (K : PySem.W.Frag) : Sp := fun vs H Q _ => ∃ (S : List Addr) (a tr dx sl : Addr) (n : Vbtoad.Net) (d : Nat) (ws : List (List Nat)) (s : At) (p c : Nat), vs = [.ref a, .ref tr, .int (p : Nat), .int (c : Nat)] ∧ OutSt K S H a n d ws ∧ tr ∈ S ∧ p < n.places.length ∧ H tr = some (TrObj K tr dx sl s) ∧
  ∀ H1, Keeps [tr] H H1 → H1 tr = some (TrObj K tr dx sl ⟨s.k, p, thereM n d p c⟩) → Q .non H1
theorem sc_come_to : FnScope ["outlook", "traveller", "place", "comes"] ["outlook", "traveller", "place", "comes"] d_come_to.scope := ⟨rfl, rfl, rfl, by decide +kernel, rfl, by decide +kernel, by decide +kernel⟩
theorem ok_come_to (T : Fx K mg base) : Fn0 P w K mg base 2 "come_to" (sp_come_to K) := by
  obtain ⟨fd, F⟩ := F_come_to T
  refine ⟨⟨_, fd, ["outlook", "traveller", "place", "comes"], F.ok sc_come_to (fun vs H Q E h => ?_) (fun cdv A outer s H vs Q E hr h => ⟨_, PSs.nox (pss_cons (ps_fld (pv 1) (pv 2) rfl) (pss_one (ps_fld (pv 1) (pe_c0 (ok_minute_there T) hr (by decide) rfl (pa_cons (pv 0) (pa_cons (pv 2) (pa_cons (pv 3) pa_nil)))) rfl))), ?_⟩), g_come_to T, F.kp, F.bindsN (fun _ _ _ _ _ _ us hl => match us, hl with | [_, _, _, _], _ => rfl)⟩⟩
  · obtain ⟨S, a, tr, dx, sl, n, d, ws, s0, p, c, rfl, _⟩ := h
    rfl
  · obtain ⟨S, a, tr, dx, sl, n, d, ws, s0, p, c, rfl, hO, htr, hp, et, q⟩ := h
    refine ⟨_, rfl, _, rfl, tr, _, dx, _, rfl, et, c_Traveller T, n_Traveller_place T, (by show 4 < 1000; decide), ?_⟩
    refine ⟨_, rfl, _, rfl, _, rfl, S, a, n, d, ws, p, c, rfl, (hO.kp (Kp.upd htr)).at_, hp, ?_⟩
    refine ⟨_, rfl, tr, _, dx, _, rfl, upd_same, c_Traveller T, n_Traveller_minute T, (by show 4 < 1000; decide), ?_⟩
    exact q _ ((keeps_upd (by simp)).trans (keeps_upd (by simp))) upd_same
end
end SJ
end
section
set_option Elab.async false
set_option linter.all false
set_option maxRecDepth 100000
set_option maxHeartbeats 4000000
/-! The three ways of a step. -/
namespace SJ
open PySem PySem.Spec PyProof.Rows L2 LamX
section
variable {K : PySem.W.Frag} {S : List Addr} {H H1 : Hp}
theorem TrIs.obj {tr sl : Addr} {s : At} {l : List Vbtoad.Step} (h : TrIs K H tr sl s l) : ∃ dx, H tr = some (TrObj K tr dx sl s) := h.1
theorem TrIs.ne {tr sl : Addr} {s : At} {l : List Vbtoad.Step} (h : TrIs K H tr sl s l) : tr ≠ sl := fun z => by
  obtain ⟨dx, e⟩ := h.1
  rw [z, h.2] at e
  cases e
theorem nv3 (a b c : Nat) : nv [a, b, c] = [V.int (a : Nat), .int (b : Nat), .int (c : Nat)] := rfl
end
section
variable {P : Program} {w : World} {K : PySem.W.Frag} {mg : Str → Option Value} {base : Heap}
/-- a step: from s to what f tells -/
def sp_move (K : PySem.W.Frag) (f : Vbtoad.Net → Nat → At → Nat → Option (At × Vbtoad.Step)) : Sp := fun vs H Q _ => ∃ (S : List Addr) (a tr sl : Addr) (n : Vbtoad.Net) (d : Nat) (ws : List (List Nat)) (s : At) (l : List Vbtoad.Step) (i : Nat) (s2 : At) (x : Vbtoad.Step), vs = [.ref a, .ref tr, .int (i : Nat)] ∧ OutSt K S H a n d ws ∧ tr ∈ S ∧ sl ∈ S ∧ TrIs K H tr sl s l ∧ l.length ≤ 300 ∧ f n d s i = some (s2, x) ∧
  ∀ H1, Kp [tr, sl] H H1 → Kt H H1 → TrIs K H1 tr sl s2 (l ++ [x]) → Q .non H1
def mvCar (n : Vbtoad.Net) (d : Nat) (s : At) (c : Nat) : Option (At × Vbtoad.Step) := (n.cars[c]?).map fun x => (⟨s.k, x.to_, thereM n d x.to_ (s.t + x.long)⟩, ⟨1, c, s.t⟩)
def mvGo (n : Vbtoad.Net) (d : Nat) (s : At) (i : Nat) : Option (At × Vbtoad.Step) := (n.goes[i]?).map fun g => (⟨s.k, g.to_, thereM n d g.to_ g.arr⟩, ⟨2, i, g.dep⟩)
def mvVain (n : Vbtoad.Net) (_ : Nat) (s : At) (i : Nat) : Option (At × Vbtoad.Step) := (n.goes[i]?).map fun g => (⟨s.k - 1, s.p, g.dep + 1⟩, ⟨3, i, g.dep⟩)
theorem steps_room {l : List Vbtoad.Step} (h : l.length ≤ 300) : (nv (stepNums l)).length + 3 ≤ sizeLine := by
  rw [nv_len, stepNums_len, sizeLine_eq]
  omega
theorem sc_go_by_car : FnScope ["outlook", "traveller", "number", "car"] ["outlook", "traveller", "number"] d_go_by_car.scope := ⟨rfl, rfl, rfl, by decide +kernel, rfl, by decide +kernel, by decide +kernel⟩
theorem ok_go_by_car (T : Fx K mg base) : Fn0 P w K mg base 3 "go_by_car" (sp_move K mvCar) := by
  obtain ⟨fd, F⟩ := F_go_by_car T
  refine ⟨⟨_, fd, ["outlook", "traveller", "number"], F.ok sc_go_by_car (fun vs H Q E h => ?_) (fun cdv A outer s H vs Q E hr h => ⟨_, PSs.nox (pss_cons (ps_set (i := 3) sc_go_by_car.nd rfl (Or.inl rfl) (pe_ix ix_list (pe_fld (pe_fld (pv 0) rfl) rfl) (pv 2) (fun _ _ => rfl))) (pss_cons (ps_expr (pe_bm PySem.F.plainAttrs_list PySem.F.slot_list_extend PySem.F.type_list_extend mt_extend (pe_fld (pv 1) rfl) (pa_cons (pe_lst (pa_cons (C8.pe_gc rfl (i_STEP_BY_CAR T)) (pa_cons (pv 2) (pa_cons (pe_fld (pv 1) rfl) pa_nil)))) pa_nil))) (pss_one (ps_expr (pe_c0 (ok_come_to T) hr (by decide) rfl (pa_cons (pv 0) (pa_cons (pv 1) (pa_cons (pe_fld (pv 3) rfl) (pa_cons (pe_op op_add (pe_fld (pv 1) rfl) (pe_fld (pv 3) rfl)) pa_nil))))))))), ?_⟩), g_go_by_car T, F.kp, F.bindsN (fun _ _ _ _ _ _ us hl => match us, hl with | [_, _, _], _ => rfl)⟩⟩
  · obtain ⟨S, a, tr, sl, n, d, ws, s0, l, i, s2, x, rfl, _⟩ := h
    rfl
  · obtain ⟨S, a, tr, sl, n, d, ws, s0, l, i, s2, x, rfl, hO, htr, hsl, hT, hl, hf, q⟩ := h
    obtain ⟨cx, ecx, hf⟩ := Option.map_eq_some_iff.mp hf
    cases hf
    obtain ⟨na, wa, wl, hI, _⟩ := id hO.ex
    obtain ⟨da, e⟩ := hI.own.1
    obtain ⟨lp, lc, ld, ⟨⟨⟨dn, en⟩, ea⟩, _, ⟨cs, ec, rc⟩, _⟩, _⟩ := hI.net
    obtain ⟨cb, ecb, hcb⟩ := rc.at_ i cx ecx
    have C := hI.wf.car cx (List.mem_of_getElem? ecx)
    obtain ⟨dx, et⟩ := hT.obj
    refine ⟨_, rfl, a, _, da, _, _, rfl, e, c_Outlook T, n_Outlook_net T, rfl, na, _, dn, _, _, rfl, en, c_Net T, n_Net_cars T, rfl, _, rfl, lc, cs, (i : Int), .ref cb, rfl, rfl, SqL.of ec, atI_nat ecb, ?_⟩
    refine ⟨_, rfl, tr, _, dx, _, _, rfl, et, c_Traveller T, n_Traveller_steps T, rfl, .inl ⟨rfl, _, SqL.of hT.2⟩, _, rfl, _, rfl, tr, _, dx, _, _, rfl, et, c_Traveller T, n_Traveller_minute T, rfl, by show 3 ≤ sizeLine; rw [sizeLine_eq]; omega, fun nl hnl => ?_⟩
    have s1 : Same H (upd H nl (.lst (nv [1, i, s0.t]))) := same_new hnl
    refine ⟨sl, nl, nv (stepNums l), nv [1, i, s0.t], rfl, rfl, s1 _ _ hT.2, upd_same, steps_room hl, ?_⟩
    let G : Hp := upd (upd H nl (.lst (nv [1, i, s0.t]))) sl (.lst (nv (stepNums l) ++ nv [1, i, s0.t]))
    have kG : Kp [tr, sl] H G := (Kp.same s1).trans (Kp.upd (by simp))
    have tG : Kt H G := (Kt.same s1).trans (Kt.upd_lst (s1 _ _ hT.2))
    have kS : Kp S H G := (Kp.same s1).trans (Kp.upd hsl)
    have etG : G tr = some (TrObj K tr dx sl s0) := (upd_ne hT.ne).trans (s1 _ _ et)
    have esG : G sl = some (.lst (nv (stepNums (l ++ [⟨1, i, s0.t⟩])))) := by
      show (upd _ sl _) sl = _
      rw [upd_same, stepNums_snoc, nv_append]
    obtain ⟨dc, sg, f1, _⟩ := hcb.kp kS
    refine ⟨_, rfl, _, rfl, _, rfl, cb, _, dc, _, _, rfl, f1, c_Car T, n_Car_end T, rfl, _, rfl, tr, _, dx, _, _, rfl, etG, c_Traveller T, n_Traveller_minute T, rfl, _, rfl, cb, _, dc, _, _, rfl, f1, c_Car T, n_Car_minutes T, rfl, _, _, rfl, rfl, S, a, tr, dx, sl, n, d, ws, s0, cx.to_, s0.t + cx.long, rfl, hO.kp kS, htr, C.2.1, etG, fun H3 k3 e3 => ?_⟩
    refine q H3 (kG.trans (Kp.keeps (k3.mono (by simp)))) (tG.trans (Kt.keeps k3 (Owned.cons_ins etG Owned.nil))) ⟨⟨dx, e3⟩, k3 _ _ (by simpa using Ne.symm hT.ne) esG⟩
theorem sc_go_by_departure : FnScope ["outlook", "traveller", "number", "departure"] ["outlook", "traveller", "number"] d_go_by_departure.scope := ⟨rfl, rfl, rfl, by decide +kernel, rfl, by decide +kernel, by decide +kernel⟩
theorem ok_go_by_departure (T : Fx K mg base) : Fn0 P w K mg base 3 "go_by_departure" (sp_move K mvGo) := by
  obtain ⟨fd, F⟩ := F_go_by_departure T
  refine ⟨⟨_, fd, ["outlook", "traveller", "number"], F.ok sc_go_by_departure (fun vs H Q E h => ?_) (fun cdv A outer s H vs Q E hr h => ⟨_, PSs.nox (pss_cons (ps_set (i := 3) sc_go_by_departure.nd rfl (Or.inl rfl) (pe_ix ix_list (pe_fld (pe_fld (pv 0) rfl) rfl) (pv 2) (fun _ _ => rfl))) (pss_cons (ps_expr (pe_bm PySem.F.plainAttrs_list PySem.F.slot_list_extend PySem.F.type_list_extend mt_extend (pe_fld (pv 1) rfl) (pa_cons (pe_lst (pa_cons (C8.pe_gc rfl (i_STEP_BY_DEPARTURE T)) (pa_cons (pv 2) (pa_cons (pe_fld (pv 3) rfl) pa_nil)))) pa_nil))) (pss_one (ps_expr (pe_c0 (ok_come_to T) hr (by decide) rfl (pa_cons (pv 0) (pa_cons (pv 1) (pa_cons (pe_fld (pv 3) rfl) (pa_cons (pe_fld (pv 3) rfl) pa_nil))))))))), ?_⟩), g_go_by_departure T, F.kp, F.bindsN (fun _ _ _ _ _ _ us hl => match us, hl with | [_, _, _], _ => rfl)⟩⟩
  · obtain ⟨S, a, tr, sl, n, d, ws, s0, l, i, s2, x, rfl, _⟩ := h
    rfl
  · obtain ⟨S, a, tr, sl, n, d, ws, s0, l, i, s2, x, rfl, hO, htr, hsl, hT, hl, hf, q⟩ := h
    obtain ⟨g, eg, hf⟩ := Option.map_eq_some_iff.mp hf
    cases hf
    obtain ⟨na, wa, wl, hI, _⟩ := id hO.ex
    obtain ⟨da, e⟩ := hI.own.1
    obtain ⟨lp, lc, ld, ⟨⟨⟨dn, en⟩, ea⟩, _, _, ⟨ds, ed, rd⟩⟩, _⟩ := hI.net
    obtain ⟨gb, egb, hgb⟩ := rd.at_ i g eg
    have G0 := hI.wf.go g (List.mem_of_getElem? eg)
    obtain ⟨dx, et⟩ := hT.obj
    obtain ⟨dg, sg, f0, _⟩ := id hgb
    refine ⟨_, rfl, a, _, da, _, _, rfl, e, c_Outlook T, n_Outlook_net T, rfl, na, _, dn, _, _, rfl, en, c_Net T, n_Net_departures T, rfl, _, rfl, ld, ds, (i : Int), .ref gb, rfl, rfl, SqL.of ed, atI_nat egb, ?_⟩
    refine ⟨_, rfl, tr, _, dx, _, _, rfl, et, c_Traveller T, n_Traveller_steps T, rfl, .inl ⟨rfl, _, SqL.of hT.2⟩, _, rfl, _, rfl, gb, _, dg, _, _, rfl, f0, c_Departure T, n_Departure_leaves T, rfl, by show 3 ≤ sizeLine; rw [sizeLine_eq]; omega, fun nl hnl => ?_⟩
    have s1 : Same H (upd H nl (.lst (nv [2, i, g.dep]))) := same_new hnl
    refine ⟨sl, nl, nv (stepNums l), nv [2, i, g.dep], rfl, rfl, s1 _ _ hT.2, upd_same, steps_room hl, ?_⟩
    let G : Hp := upd (upd H nl (.lst (nv [2, i, g.dep]))) sl (.lst (nv (stepNums l) ++ nv [2, i, g.dep]))
    have kG : Kp [tr, sl] H G := (Kp.same s1).trans (Kp.upd (by simp))
    have tG : Kt H G := (Kt.same s1).trans (Kt.upd_lst (s1 _ _ hT.2))
    have kS : Kp S H G := (Kp.same s1).trans (Kp.upd hsl)
    have etG : G tr = some (TrObj K tr dx sl s0) := (upd_ne hT.ne).trans (s1 _ _ et)
    have esG : G sl = some (.lst (nv (stepNums (l ++ [⟨2, i, g.dep⟩])))) := by
      show (upd _ sl _) sl = _
      rw [upd_same, stepNums_snoc, nv_append]
    obtain ⟨dg2, sg2, f1, _⟩ := hgb.kp kS
    refine ⟨_, rfl, _, rfl, _, rfl, gb, _, dg2, _, _, rfl, f1, c_Departure T, n_Departure_end T, rfl, _, rfl, gb, _, dg2, _, _, rfl, f1, c_Departure T, n_Departure_comes T, rfl, S, a, tr, dx, sl, n, d, ws, s0, g.to_, g.arr, rfl, hO.kp kS, htr, G0.2.1, etG, fun H3 k3 e3 => ?_⟩
    refine q H3 (kG.trans (Kp.keeps (k3.mono (by simp)))) (tG.trans (Kt.keeps k3 (Owned.cons_ins etG Owned.nil))) ⟨⟨dx, e3⟩, k3 _ _ (by simpa using Ne.symm hT.ne) esG⟩
theorem sc_wait_in_vain : FnScope ["outlook", "traveller", "number", "departure"] ["outlook", "traveller", "number"] d_wait_in_vain.scope := ⟨rfl, rfl, rfl, by decide +kernel, rfl, by decide +kernel, by decide +kernel⟩
theorem ok_wait_in_vain (T : Fx K mg base) : Fn0 P w K mg base 1 "wait_in_vain" (sp_move K mvVain) := by
  obtain ⟨fd, F⟩ := F_wait_in_vain T
  refine ⟨⟨_, fd, ["outlook", "traveller", "number"], F.ok sc_wait_in_vain (fun vs H Q E h => ?_) (fun cdv A outer s H vs Q E hr h => ⟨_, PSs.nox (pss_cons (ps_set (i := 3) sc_wait_in_vain.nd rfl (Or.inl rfl) (pe_ix ix_list (pe_fld (pe_fld (pv 0) rfl) rfl) (pv 2) (fun _ _ => rfl))) (pss_cons (ps_expr (pe_bm PySem.F.plainAttrs_list PySem.F.slot_list_extend PySem.F.type_list_extend mt_extend (pe_fld (pv 1) rfl) (pa_cons (pe_lst (pa_cons (C8.pe_gc rfl (i_STEP_CANCELLED T)) (pa_cons (pv 2) (pa_cons (pe_fld (pv 3) rfl) pa_nil)))) pa_nil))) (pss_cons (ps_fld (pv 1) (pe_op op_add (pe_fld (pv 3) rfl) (pe_int)) rfl) (pss_one (ps_fld (pv 1) (pe_callB (call_max2 rfl) (by rfl) (b_max T) (by decide +kernel) (pa_cons (pe_op op_sub (pe_fld (pv 1) rfl) (pe_int)) (pa_cons (pe_int) pa_nil))) rfl))))), ?_⟩), g_wait_in_vain T, F.kp, F.bindsN (fun _ _ _ _ _ _ us hl => match us, hl with | [_, _, _], _ => rfl)⟩⟩
  · obtain ⟨S, a, tr, sl, n, d, ws, s0, l, i, s2, x, rfl, _⟩ := h
    rfl
  · obtain ⟨S, a, tr, sl, n, d, ws, s0, l, i, s2, x, rfl, hO, htr, hsl, hT, hl, hf, q⟩ := h
    obtain ⟨g, eg, hf⟩ := Option.map_eq_some_iff.mp hf
    cases hf
    obtain ⟨na, wa, wl, hI, _⟩ := id hO.ex
    obtain ⟨da, e⟩ := hI.own.1
    obtain ⟨lp, lc, ld, ⟨⟨⟨dn, en⟩, ea⟩, _, _, ⟨ds, ed, rd⟩⟩, _⟩ := hI.net
    obtain ⟨gb, egb, hgb⟩ := rd.at_ i g eg
    obtain ⟨dx, et⟩ := hT.obj
    obtain ⟨dg, sg, f0, _⟩ := id hgb
    refine ⟨_, rfl, a, _, da, _, _, rfl, e, c_Outlook T, n_Outlook_net T, rfl, na, _, dn, _, _, rfl, en, c_Net T, n_Net_departures T, rfl, _, rfl, ld, ds, (i : Int), .ref gb, rfl, rfl, SqL.of ed, atI_nat egb, ?_⟩
    refine ⟨_, rfl, tr, _, dx, _, _, rfl, et, c_Traveller T, n_Traveller_steps T, rfl, .inl ⟨rfl, _, SqL.of hT.2⟩, _, rfl, _, rfl, gb, _, dg, _, _, rfl, f0, c_Departure T, n_Departure_leaves T, rfl, by show 3 ≤ sizeLine; rw [sizeLine_eq]; omega, fun nl hnl => ?_⟩
    have s1 : Same H (upd H nl (.lst (nv [3, i, g.dep]))) := same_new hnl
    refine ⟨sl, nl, nv (stepNums l), nv [3, i, g.dep], rfl, rfl, s1 _ _ hT.2, upd_same, steps_room hl, ?_⟩
    let G : Hp := upd (upd H nl (.lst (nv [3, i, g.dep]))) sl (.lst (nv (stepNums l) ++ nv [3, i, g.dep]))
    have kG : Kp [tr, sl] H G := (Kp.same s1).trans (Kp.upd (by simp))
    have tG : Kt H G := (Kt.same s1).trans (Kt.upd_lst (s1 _ _ hT.2))
    have kS : Kp S H G := (Kp.same s1).trans (Kp.upd hsl)
    have etG : G tr = some (TrObj K tr dx sl s0) := (upd_ne hT.ne).trans (s1 _ _ et)
    have esG : G sl = some (.lst (nv (stepNums (l ++ [⟨3, i, g.dep⟩])))) := by
      show (upd _ sl _) sl = _
      rw [upd_same, stepNums_snoc, nv_append]
    obtain ⟨dg2, sg2, f1, _⟩ := hgb.kp kS
    refine ⟨_, rfl, gb, _, dg2, _, _, rfl, f1, c_Departure T, n_Departure_leaves T, rfl, _, _, rfl, rfl, _, rfl, tr, _, dx, _, rfl, etG, c_Traveller T, n_Traveller_minute T, (by show 4 < 1000; decide), ?_⟩
    refine ⟨_, rfl, tr, _, dx, _, _, rfl, upd_same, c_Traveller T, n_Traveller_k T, rfl, _, _, rfl, rfl, _, _, rfl, _, rfl, tr, _, dx, _, rfl, upd_same, c_Traveller T, n_Traveller_k T, (by show 4 < 1000; decide), ?_⟩
    refine q _ (kG.trans ((Kp.upd (by simp)).trans (Kp.upd (by simp)))) (tG.trans ((Kt.upd_ins etG).trans (Kt.upd_ins upd_same))) ⟨⟨dx, ?_⟩, ?_⟩
    · rw [upd_same]
      have ev : (if (0 : Int) > (s0.k : Int) - 1 then (0 : Int) else (s0.k : Int) - 1) = ((s0.k - 1 : Nat) : Int) := by
        split <;> omega
      rw [← ev]
      rfl
    · rw [upd_ne (Ne.symm hT.ne), upd_ne (Ne.symm hT.ne)]
      exact esG
end
end SJ
end
section
set_option Elab.async false
set_option linter.all false
set_option maxRecDepth 100000
set_option maxHeartbeats 4000000
/-! One step; whether it goes on; what is told. -/
namespace SJ
open PySem PySem.Spec PyProof.Rows L2 LamX
theorem flat_nv (t : List Nat) : (nv t).all flatV = true := by
  rw [List.all_eq_true]
  intro v hv
  obtain ⟨m, _, rfl⟩ := List.mem_map.mp hv
  rfl
theorem inV_nv (i : Nat) (t : List Nat) : inV (.int (i : Nat)) (nv t) = t.contains i := by
  unfold inV nv
  rw [List.any_map]
  induction t with
  | nil => rfl
  | cons a t ih =>
    rw [List.any_cons, ih, List.contains_cons]
    congr 1
    show eqV (.int (a : Int)) (.int (i : Int)) = (i == a)
    by_cases c : i = a
    · subst c
      rw [beq_self_eq_true]
      show ((i : Int) == (i : Int)) = true
      exact beq_self_eq_true _
    · rw [beq_eq_false_iff_ne.mpr c]
      show ((a : Int) == (i : Int)) = false
      exact beq_eq_false_iff_ne.mpr fun z => c (by omega)
section
variable {P : Program} {w : World} {K : PySem.W.Frag} {mg : Str → Option Value} {base : Heap}
def sp_take_step (K : PySem.W.Frag) : Sp := fun vs H Q _ => ∃ (S : List Addr) (a tr sl ca cl : Addr) (n : Vbtoad.Net) (d : Nat) (ws : List (List Nat)) (s : At) (l : List Vbtoad.Step) (act : Vbtoad.Act) (out : List Nat) (s2 : At) (x : Vbtoad.Step), vs = [.ref a, .ref tr, .ref ca, .ref cl] ∧ OutSt K S H a n d ws ∧ tr ∈ S ∧ sl ∈ S ∧ TrIs K H tr sl s l ∧ l.length ≤ 300 ∧ ChoiceAt K H ca act ∧ SqL K H cl (nv out) ∧
  toDoM n d (worthsM n d s.k) s.p s.t = some act ∧ stepM n d out s = some (s2, x) ∧ ∀ H1, Kp [tr, sl] H H1 → Kt H H1 → TrIs K H1 tr sl s2 (l ++ [x]) → Q .non H1
theorem sc_take_step : FnScope ["outlook", "traveller", "choice", "cancelled"] ["outlook", "traveller", "choice", "cancelled"] d_take_step.scope := ⟨rfl, rfl, rfl, by decide +kernel, rfl, by decide +kernel, by decide +kernel⟩
theorem ok_take_step (T : Fx K mg base) : Fn0 P w K mg base 4 "take_step" (sp_take_step K) := by
  obtain ⟨fd, F⟩ := F_take_step T
  refine ⟨⟨_, fd, ["outlook", "traveller", "choice", "cancelled"], F.ok sc_take_step (fun vs H Q E h => ?_) (fun cdv A outer s H vs Q E hr h => ⟨_, PSs.nox (pss_one (ps_if (pt_cmpR op_eq (pe_fld (pv 2) rfl) (C8.pe_gc rfl (i_BY_CAR T)) (nomark _)) (pss_one (ps_expr (pe_c0 (ok_go_by_car T) hr (by decide) rfl (pa_cons (pv 0) (pa_cons (pv 1) (pa_cons (pe_fld (pv 2) rfl) pa_nil)))))) (pss_one (ps_if (pt_cmpR op_in_seq (pe_fld (pv 2) rfl) (pv 3) rfl) (pss_one (ps_expr (pe_c0 (ok_wait_in_vain T) hr (by decide) rfl (pa_cons (pv 0) (pa_cons (pv 1) (pa_cons (pe_fld (pv 2) rfl) pa_nil)))))) (pss_one (ps_expr (pe_c0 (ok_go_by_departure T) hr (by decide) rfl (pa_cons (pv 0) (pa_cons (pv 1) (pa_cons (pe_fld (pv 2) rfl) pa_nil)))))))))), ?_⟩), g_take_step T, F.kp, F.bindsN (fun _ _ _ _ _ _ us hl => match us, hl with | [_, _, _, _], _ => rfl)⟩⟩
  · obtain ⟨S, a, tr, sl, ca, cl, n, d, ws, s0, l, act, out, s2, x, rfl, _⟩ := h
    rfl
  · obtain ⟨S, a, tr, sl, ca, cl, n, d, ws, s0, l, act, out, s2, x, rfl, hO, htr, hsl, hT, hl, ⟨dc, ec⟩, hcl, ht, hst, q⟩ := h
    unfold stepM at hst
    rw [ht] at hst
    refine ⟨_, rfl, ca, _, dc, _, _, rfl, ec, c_Choice T, n_Choice_kind T, rfl, rfl, _, rfl, ?_⟩
    cases act with
    | there => cases hst
    | drive c =>
      refine ifT (decide_eq_true rfl) ⟨_, rfl, _, rfl, _, rfl, ca, _, dc, _, _, rfl, ec, c_Choice T, n_Choice_number T, rfl, S, a, tr, sl, n, d, ws, s0, l, c, s2, x, rfl, hO, htr, hsl, hT, hl, ?_, q⟩
      unfold mvCar
      cases e : n.cars[c]? with
      | none =>
        simp only [e] at hst
        cases hst
      | some y =>
        simp only [e] at hst
        cases hst
        rfl
    | wait i =>
      refine ifF (decide_eq_false fun z => by have := V.int.inj z; cases this) ⟨_, rfl, ca, _, dc, _, _, rfl, ec, c_Choice T, n_Choice_number T, rfl, _, rfl, cl, _, rfl, .inl hcl, rfl, flat_nv out, _, rfl, ?_⟩
      have ein : inV (V.int ((actNo (.wait i) : Nat) : Int)) (nv out) = out.contains i := inV_nv i out
      cases e : n.goes[i]? with
      | none =>
        simp only [e] at hst
        cases hst
      | some g =>
        simp only [e] at hst
        by_cases c : out.contains i = true
        · rw [if_pos c] at hst
          cases hst
          refine ifT (ein.trans c) ⟨_, rfl, _, rfl, _, rfl, ca, _, dc, _, _, rfl, ec, c_Choice T, n_Choice_number T, rfl, S, a, tr, sl, n, d, ws, s0, l, i, _, _, rfl, hO, htr, hsl, hT, hl, ?_, q⟩
          unfold mvVain
          rw [e]
          rfl
        · rw [if_neg c] at hst
          cases hst
          refine ifF (ein.trans (Bool.eq_false_iff.mpr c)) ⟨_, rfl, _, rfl, _, rfl, ca, _, dc, _, _, rfl, ec, c_Choice T, n_Choice_number T, rfl, S, a, tr, sl, n, d, ws, s0, l, i, _, _, rfl, hO, htr, hsl, hT, hl, ?_, q⟩
          unfold mvGo
          rw [e]
          rfl
/-- whether there is a step -/
def goesOn (n : Vbtoad.Net) (d : Nat) (s : At) : Bool := !(decide (s.p = d)) && !(decide (sureM n d (worthsM n d s.k) s.p s.t = NEVER))
theorem goesOn_iff {n : Vbtoad.Net} {d : Nat} {s : At} : goesOn n d s = true ↔ s.p ≠ d ∧ sureM n d (worthsM n d s.k) s.p s.t ≠ NEVER := by
  unfold goesOn
  rw [Bool.and_eq_true, Bool.not_eq_true', Bool.not_eq_true', decide_eq_false_iff_not, decide_eq_false_iff_not]
def sp_goes_on (K : PySem.W.Frag) : Sp := fun vs H Q _ => ∃ (S : List Addr) (a tr sl : Addr) (n : Vbtoad.Net) (d m : Nat) (s : At) (l : List Vbtoad.Step), vs = [.ref a, .ref tr] ∧ OutAt K S H a n d (rowsTo n d (m + 1)) ∧ TrIs K H tr sl s l ∧ s.k ≤ m ∧ s.p < n.places.length ∧ ∀ H1, Same H H1 → Q (.bl (goesOn n d s)) H1
theorem sc_goes_on : FnScope ["outlook", "traveller"] ["outlook", "traveller"] d_goes_on.scope := ⟨rfl, rfl, rfl, by decide +kernel, rfl, by decide +kernel, by decide +kernel⟩
theorem ok_goes_on (T : Fx K mg base) : Fn0 P w K mg base 3 "goes_on" (sp_goes_on K) := by
  obtain ⟨fd, F⟩ := F_goes_on T
  refine ⟨⟨_, fd, ["outlook", "traveller"], F.ok sc_goes_on (fun vs H Q E h => ?_) (fun cdv A outer s H vs Q E hr h => ⟨_, PSs.nox (pss_cons (ps_if (pt_cmpR op_eq (pe_fld (pv 1) rfl) (pe_fld (pv 0) rfl) (nomark _)) (pss_one (ps_ret (pe_bl))) (pss_nil)) (pss_one (ps_ret (pe_cmpR op_ne (pe_c0 (ok_sure_from T) hr (by decide) rfl (pa_cons (pv 0) (pa_cons (pe_fld (pv 1) rfl) (pa_cons (pe_fld (pv 1) rfl) (pa_cons (pe_fld (pv 1) rfl) pa_nil))))) (C8.pe_gc rfl (i_NEVER T)) (nomark _))))), ?_⟩), g_goes_on T, F.kp, F.bindsN (fun _ _ _ _ _ _ us hl => match us, hl with | [_, _], _ => rfl)⟩⟩
  · obtain ⟨S, a, tr, sl, n, d, m, s0, l, rfl, _⟩ := h
    rfl
  · obtain ⟨S, a, tr, sl, n, d, m, s0, l, rfl, hA, hT, hk, hp, q⟩ := h
    obtain ⟨na, wa, wl, hI⟩ := id hA
    obtain ⟨da, e⟩ := hI.own.1
    obtain ⟨dx, et⟩ := hT.obj
    refine ⟨_, rfl, tr, _, dx, _, _, rfl, et, c_Traveller T, n_Traveller_place T, rfl, _, rfl, a, _, da, _, _, rfl, e, c_Outlook T, n_Outlook_goal T, rfl, rfl, _, rfl, ?_⟩
    by_cases c1 : V.int ((s0.p : Nat) : Int) = V.int ((d : Nat) : Int)
    · have c0 : s0.p = d := by
        have := V.int.inj c1
        omega
      have q := q H (Same.refl H)
      have eg : goesOn n d s0 = false := Bool.eq_false_iff.mpr fun z => (goesOn_iff.mp z).1 c0
      rw [eg] at q
      exact ifT (decide_eq_true c1) q
    · refine ifF (decide_eq_false c1) ⟨_, rfl, _, rfl, tr, _, dx, _, _, rfl, et, c_Traveller T, n_Traveller_k T, rfl, _, rfl, tr, _, dx, _, _, rfl, et, c_Traveller T, n_Traveller_minute T, rfl, _, rfl, tr, _, dx, _, _, rfl, et, c_Traveller T, n_Traveller_place T, rfl, S, a, n, d, rowsTo n d (m + 1), s0.k, s0.t, s0.p, worthsM n d s0.k, rfl, hA, rowsTo_get (by omega), hp, fun H1 s1 => ?_⟩
      refine ⟨rfl, ?_⟩
      have eg : (!decide (V.int ((sureM n d (worthsM n d s0.k) s0.p s0.t : Nat) : Int) = V.int 1000000000)) = goesOn n d s0 := by
        unfold goesOn
        rw [decide_eq_false (show ¬ s0.p = d from fun z => c1 (by rw [z])), Bool.not_false, Bool.true_and]
        congr 1
        by_cases c : sureM n d (worthsM n d s0.k) s0.p s0.t = NEVER
        · rw [decide_eq_true c, c]
          exact decide_eq_true rfl
        · rw [decide_eq_false c]
          refine decide_eq_false fun z => c ?_
          have := V.int.inj z
          unfold NEVER
          omega
      have q := q H1 s1
      rw [← eg] at q
      exact q
def sp_choice_of (K : PySem.W.Frag) : Sp := fun vs H Q _ => ∃ (S : List Addr) (a tr sl : Addr) (n : Vbtoad.Net) (d m : Nat) (s : At) (l : List Vbtoad.Step) (act : Vbtoad.Act), vs = [.ref a, .ref tr] ∧ OutAt K S H a n d (rowsTo n d (m + 1)) ∧ TrIs K H tr sl s l ∧ s.k ≤ m ∧ s.p < n.places.length ∧ Tabs (tabT K) H ∧ toDoM n d (worthsM n d s.k) s.p s.t = some act ∧ ∀ c H1, ExtN H H1 → Tabs (tabT K) H1 → Fresh H c → ChoiceAt K H1 c act → Q (.ref c) H1
theorem sc_choice_of : FnScope ["outlook", "traveller"] ["outlook", "traveller"] d_choice_of.scope := ⟨rfl, rfl, rfl, by decide +kernel, rfl, by decide +kernel, by decide +kernel⟩
theorem ok_choice_of (T : Fx K mg base) : FnX P w K mg base 4 "choice_of" (sp_choice_of K) := by
  obtain ⟨fd, F⟩ := F_choice_of T
  refine ⟨⟨_, fd, ["outlook", "traveller"], F.ok sc_choice_of (fun vs H Q E h => ?_) (fun cdv A outer s H vs Q E hr h => ⟨_, pss_one (ps_ret (pe_cx (ok_what_to_do T) hr (by decide) rfl (takes_of rfl rfl rfl rfl) (pa_cons (pv 0) (pa_cons (pe_fld (pv 1) rfl) (pa_cons (pe_fld (pv 1) rfl) (pa_cons (pe_fld (pv 1) rfl) pa_nil)))))), ?_⟩), g_choice_of T, F.kp, F.bindsN (fun _ _ _ _ _ _ us hl => match us, hl with | [_, _], _ => rfl)⟩⟩
  · obtain ⟨S, a, tr, sl, n, d, m, s0, l, act, rfl, _⟩ := h
    rfl
  · obtain ⟨S, a, tr, sl, n, d, m, s0, l, act, rfl, hA, hT, hk, hp, hTb, ha, q⟩ := h
    obtain ⟨dx, et⟩ := hT.obj
    refine ⟨_, rfl, _, rfl, tr, _, dx, _, _, rfl, et, c_Traveller T, n_Traveller_k T, rfl, _, rfl, tr, _, dx, _, _, rfl, et, c_Traveller T, n_Traveller_minute T, rfl, _, rfl, tr, _, dx, _, _, rfl, et, c_Traveller T, n_Traveller_place T, rfl, S, a, n, d, rowsTo n d (m + 1), s0.k, s0.t, s0.p, worthsM n d s0.k, rfl, hA, rowsTo_get (by omega), hp, hTb, fun z => ?_, fun x hx c H1 k1 t1 f1 c1 => ?_⟩
    · rw [ha] at z
      cases z
    · rw [ha] at hx
      cases hx
      exact q c H1 k1 t1 f1 c1
def sp_is_worse_cancelled (K : PySem.W.Frag) : Sp := fun vs H Q _ => ∃ (S : List Addr) (a : Addr) (n : Vbtoad.Net) (d m k i : Nat) (g : Vbtoad.Go), vs = [.ref a, .int (k : Nat), .int (i : Nat)] ∧ OutAt K S H a n d (rowsTo n d (m + 1)) ∧ k ≤ m ∧ n.goes[i]? = some g ∧ ∀ H1, Same H H1 → Q (.bl (worseM n d k g)) H1
theorem sc_is_worse_cancelled : FnScope ["outlook", "k", "number", "departure"] ["outlook", "k", "number"] d_is_worse_cancelled.scope := ⟨rfl, rfl, rfl, by decide +kernel, rfl, by decide +kernel, by decide +kernel⟩
theorem ok_is_worse_cancelled (T : Fx K mg base) : Fn0 P w K mg base 4 "is_worse_cancelled" (sp_is_worse_cancelled K) := by
  obtain ⟨fd, F⟩ := F_is_worse_cancelled T
  refine ⟨⟨_, fd, ["outlook", "k", "number"], F.ok sc_is_worse_cancelled (fun vs H Q E h => ?_) (fun cdv A outer s H vs Q E hr h => ⟨_, PSs.nox (pss_cons (ps_if (pt_cmpR op_eq (pv 1) (pe_int) (nomark _)) (pss_one (ps_ret (pe_bl))) (pss_nil)) (pss_cons (ps_set (i := 3) sc_is_worse_cancelled.nd rfl (Or.inl rfl) (pe_ix ix_list (pe_fld (pe_fld (pv 0) rfl) rfl) (pv 2) (fun _ _ => rfl))) (pss_one (ps_ret (pe_cmpR op_gt (pe_c0 (ok_sure_if_cancelled T) hr (by decide) rfl (pa_cons (pv 0) (pa_cons (pv 1) (pa_cons (pv 3) pa_nil)))) (pe_c0 (ok_sure_if_it_goes T) hr (by decide) rfl (pa_cons (pv 0) (pa_cons (pv 1) (pa_cons (pv 3) pa_nil)))) (nomark _)))))), ?_⟩), g_is_worse_cancelled T, F.kp, F.bindsN (fun _ _ _ _ _ _ us hl => match us, hl with | [_, _, _], _ => rfl)⟩⟩
  · obtain ⟨S, a, n, d, m, k, i, g, rfl, _⟩ := h
    rfl
  · obtain ⟨S, a, n, d, m, k, i, g, rfl, hA, hk, eg, q⟩ := h
    refine ⟨_, rfl, rfl, _, rfl, ?_⟩
    cases k with
    | zero => exact ifT (decide_eq_true rfl) (q H (Same.refl H))
    | succ k =>
      obtain ⟨na, wa, wl, hI⟩ := id hA
      obtain ⟨da, e⟩ := hI.own.1
      obtain ⟨lp, lc, ld, ⟨⟨⟨dn, en⟩, ea⟩, _, _, ⟨ds, ed, rd⟩⟩, _⟩ := hI.net
      obtain ⟨gb, egb, hgb⟩ := rd.at_ i g eg
      have hg := List.mem_of_getElem? eg
      refine ifF (decide_eq_false fun z => by have := V.int.inj z; omega) ⟨_, rfl, a, _, da, _, _, rfl, e, c_Outlook T, n_Outlook_net T, rfl, na, _, dn, _, _, rfl, en, c_Net T, n_Net_departures T, rfl, _, rfl, ld, ds, (i : Int), .ref gb, rfl, rfl, SqL.of ed, atI_nat egb, ?_⟩
      refine ⟨_, rfl, _, rfl, _, rfl, S, a, gb, n, d, rowsTo n d (m + 1), k + 1, g, sureM n d (worthsM n d k) g.from_ (g.dep + 1), rfl, hA, hg, hgb, ?_, fun H1 s1 => ?_⟩
      · show ((rowsTo n d (m + 1))[k]?).map _ = _
        rw [rowsTo_get (by omega)]
        rfl
      · refine ⟨_, rfl, _, rfl, _, rfl, S, a, gb, n, d, rowsTo n d (m + 1), k + 1, g, goesM n d (worthsM n d (k + 1)) g, rfl, hA.same s1, hg, hgb.keep (Same.keeps s1), ?_, fun H2 s2 => ?_⟩
        · unfold fGoes
          rw [rowsTo_get (by omega)]
          rfl
        · refine ⟨_, _, rfl, rfl, ?_⟩
          have ev : decide (((sureM n d (worthsM n d k) g.from_ (g.dep + 1) : Nat) : Int) > ((goesM n d (worthsM n d (k + 1)) g : Nat) : Int)) = worseM n d (k + 1) g := by
            show _ = decide (goesM n d (worthsM n d (k + 1)) g < sureM n d (worthsM n d k) g.from_ (g.dep + 1))
            by_cases c : goesM n d (worthsM n d (k + 1)) g < sureM n d (worthsM n d k) g.from_ (g.dep + 1)
            · rw [decide_eq_true c]
              exact decide_eq_true (by omega)
            · rw [decide_eq_false c]
              exact decide_eq_false (by omega)
          have q := q H2 (s1.trans s2)
          rw [← ev] at q
          exact q
def sp_told_journey (K : PySem.W.Frag) : Sp := fun vs H Q _ => ∃ (S : List Addr) (a tr sl : Addr) (n : Vbtoad.Net) (d : Nat) (ws : List (List Nat)) (s : At) (l : List Vbtoad.Step), vs = [.ref a, .ref tr] ∧ OutAt K S H a n d ws ∧ TrIs K H tr sl s l ∧ l.length ≤ 300 ∧ ∀ p H1, Same H H1 → H p = none → IntsAt H1 p ((if s.p = d then (s.t : Int) else -1) :: (l.length : Int) :: (stepNums l).map fun (x : Nat) => (x : Int)) → Q (.ref p) H1
theorem sc_told_journey : FnScope ["outlook", "traveller", "comes"] ["outlook", "traveller"] d_told_journey.scope := ⟨rfl, rfl, rfl, by decide +kernel, rfl, by decide +kernel, by decide +kernel⟩
theorem ok_told_journey (T : Fx K mg base) : Fn0 P w K mg base 1 "told_journey" (sp_told_journey K) := by
  obtain ⟨fd, F⟩ := F_told_journey T
  refine ⟨⟨_, fd, ["outlook", "traveller"], F.ok sc_told_journey (fun vs H Q E h => ?_) (fun cdv A outer s H vs Q E hr h => ⟨_, PSs.nox (pss_cons (ps_set (i := 2) sc_told_journey.nd rfl (Or.inl rfl) (pe_un un_neg (pe_int))) (pss_cons (ps_if (pt_cmpR op_eq (pe_fld (pv 1) rfl) (pe_fld (pv 0) rfl) (nomark _)) (pss_one (ps_set (i := 2) sc_told_journey.nd rfl (Or.inl rfl) (pe_fld (pv 1) rfl))) (pss_nil)) (pss_one (ps_ret (pe_op op_cat (pe_lst (pa_cons (pv 2) (pa_cons (pe_op op_fdiv (pe_callB call_len_seq (by rfl) (b_len T) (by decide +kernel) (pa_cons (pe_fld (pv 1) rfl) pa_nil)) (C8.pe_gc rfl (i_NUMBERS_OF_A_STEP T))) pa_nil))) (pe_fld (pv 1) rfl)))))), ?_⟩), g_told_journey T, F.kp, F.bindsN (fun _ _ _ _ _ _ us hl => match us, hl with | [_, _], _ => rfl)⟩⟩
  · obtain ⟨S, a, tr, sl, n, d, ws, s0, l, rfl, _⟩ := h
    rfl
  · obtain ⟨S, a, tr, sl, n, d, ws, s0, l, rfl, hA, hT, hl, q⟩ := h
    obtain ⟨na, wa, wl, hI⟩ := id hA
    obtain ⟨da, e⟩ := hI.own.1
    obtain ⟨dx, et⟩ := hT.obj
    have fin : ∀ z : Int, z = (if s0.p = d then (s0.t : Int) else -1) → ∀ l1 H1, Same H H1 → H l1 = none → H1 l1 = some (.lst ([V.int z, .int ((nv (stepNums l)).length / 3 : Int)] ++ nv (stepNums l))) → Q (.ref l1) H1 := fun z hz l1 H1 s1 n1 e1 => by
      refine q l1 H1 s1 n1 ?_
      unfold IntsAt
      rw [e1, hz, nv_len, stepNums_len]
      have e3 : ((3 * l.length : Nat) : Int) / 3 = (l.length : Int) := by omega
      rw [e3]
      simp [nv, List.map_map]
    have room : ([V.int 0, .int 0] : List V).length + (nv (stepNums l)).length ≤ sizeLine := by
      rw [nv_len, stepNums_len, sizeLine_eq]
      show 2 + _ ≤ _
      omega
    refine ⟨_, rfl, _, rfl, tr, _, dx, _, _, rfl, et, c_Traveller T, n_Traveller_place T, rfl, _, rfl, a, _, da, _, _, rfl, e, c_Outlook T, n_Outlook_goal T, rfl, rfl, _, rfl, ?_⟩
    by_cases c1 : V.int ((s0.p : Nat) : Int) = V.int ((d : Nat) : Int)
    · have c0 : s0.p = d := by
        have := V.int.inj c1
        omega
      refine ifT (decide_eq_true c1) ⟨_, rfl, tr, _, dx, _, _, rfl, et, c_Traveller T, n_Traveller_minute T, rfl, ?_⟩
      refine ⟨_, rfl, _, rfl, tr, _, dx, _, _, rfl, et, c_Traveller T, n_Traveller_steps T, rfl, sl, _, rfl, .inl (SqL.of hT.2), _, _, rfl, rfl, ⟨by decide, by decide⟩, by show 2 ≤ sizeLine; rw [sizeLine_eq]; omega, fun l1 h1 => ⟨_, rfl, tr, _, dx, _, _, rfl, same_new h1 _ _ et, c_Traveller T, n_Traveller_steps T, rfl, l1, sl, _, _, rfl, rfl, upd_same, same_new h1 _ _ hT.2, room, fun r hr => ?_⟩⟩
      exact fin s0.t (by rw [if_pos c0]) r _ ((same_new h1).trans (same_new hr)) ((same_new h1).free hr) upd_same
    · have c0 : s0.p ≠ d := fun z => c1 (by rw [z])
      refine ifF (decide_eq_false c1) ⟨_, rfl, _, rfl, tr, _, dx, _, _, rfl, et, c_Traveller T, n_Traveller_steps T, rfl, sl, _, rfl, .inl (SqL.of hT.2), _, _, rfl, rfl, ⟨by decide, by decide⟩, by show 2 ≤ sizeLine; rw [sizeLine_eq]; omega, fun l1 h1 => ⟨_, rfl, tr, _, dx, _, _, rfl, same_new h1 _ _ et, c_Traveller T, n_Traveller_steps T, rfl, l1, sl, _, _, rfl, rfl, upd_same, same_new h1 _ _ hT.2, room, fun r hr => ?_⟩⟩
      exact fin (-1) (by rw [if_neg c0]) r _ ((same_new h1).trans (same_new hr)) ((same_new h1).free hr) upd_same
end
end SJ
end
section
set_option Elab.async false
set_option linter.all false
set_option maxRecDepth 100000
set_option maxHeartbeats 4000000
/-! A journey; a worst case. -/
namespace SJ
open PySem PySem.Spec PyProof.Rows L2 LamX
theorem goesOn_no {n : Vbtoad.Net} {d : Nat} {s : At} (h : goesOn n d s = false) : s.p = d ∨ sureM n d (worthsM n d s.k) s.p s.t = NEVER := by
  by_cases c : s.p = d
  · exact .inl c
  · refine .inr ?_
    by_cases c2 : sureM n d (worthsM n d s.k) s.p s.t = NEVER
    · exact c2
    · have := goesOn_iff.mpr ⟨c, c2⟩
      rw [h] at this
      cases this
section
variable {P : Program} {w : World} {K : PySem.W.Frag} {mg : Str → Option Value} {base : Heap}
def sp_play_journey (K : PySem.W.Frag) : Sp := fun vs H Q _ => ∃ (S : List Addr) (a tr sl cl : Addr) (n : Vbtoad.Net) (d m : Nat) (s : At) (out : List Nat), vs = [.ref a, .ref tr, .ref cl] ∧ OutSt K S H a n d (rowsTo n d (m + 1)) ∧ tr ∈ S ∧ sl ∈ S ∧ Owned S H ∧ TrIs K H tr sl s [] ∧ s.k ≤ m ∧ s.p < n.places.length ∧ s.t ≤ 101000 ∧ H cl = some (.lst (nv out)) ∧ cl ∉ S ∧ Tabs (tabT K) H ∧
  ∀ H1 s2 l, Kp [tr, sl] H H1 → Tabs (tabT K) H1 → TrIs K H1 tr sl s2 l → l.length ≤ 300 → Vbtoad.play n (Vbtoad.roadsOf n) d out Vbtoad.FUEL s.k s.p s.t = (l, if s2.p = d then some s2.t else none) → Q .non H1
theorem sc_play_journey : FnScope ["outlook", "traveller", "cancelled"] ["outlook", "traveller", "cancelled"] d_play_journey.scope := ⟨rfl, rfl, rfl, by decide +kernel, rfl, by decide +kernel, by decide +kernel⟩
theorem ok_play_journey (T : Fx K mg base) : FnX P w K mg base 5 "play_journey" (sp_play_journey K) := by
  obtain ⟨fd, F⟩ := F_play_journey T
  refine ⟨⟨_, fd, ["outlook", "traveller", "cancelled"], F.ok sc_play_journey (fun vs H Q E h => ?_) (fun cdv A outer s H vs Q E hr h => ⟨_, pss_one (ps_while (passes_of rfl) (pt_val (pe_c0 (ok_goes_on T) hr (by decide) rfl (pa_cons (pv 0) (pa_cons (pv 1) pa_nil)))) (pss_one (ps_expr (pe_c0 (ok_take_step T) hr (by decide) rfl (pa_cons (pv 0) (pa_cons (pv 1) (pa_cons (pe_cx (ok_choice_of T) hr (by decide) rfl (takes_of rfl rfl rfl rfl) (pa_cons (pv 0) (pa_cons (pv 1) pa_nil))) (pa_cons (pv 2) pa_nil)))))))), ?_⟩), g_play_journey T, F.kp, F.bindsN (fun _ _ _ _ _ _ us hl => match us, hl with | [_, _, _], _ => rfl)⟩⟩
  · obtain ⟨S, a, tr, sl, cl, n, d, m, s0, out, rfl, _⟩ := h
    rfl
  · obtain ⟨S, a, tr, sl, cl, n, d, m, s0, out, rfl, hO, htr, hsl, hS, hT, hk, hp, ht, hcl, ncl, hTb, q⟩ := h
    have W : WF n := let ⟨_, _, _, i, _⟩ := hO.ex; i.wf
    have sub : ∀ b ∈ [tr, sl], b ∈ S := fun b hb => by
      rcases List.mem_cons.mp hb with rfl | hb
      · exact htr
      · rw [List.mem_singleton.mp hb]
        exact hsl
    refine ⟨fun μ σ G => ∃ (s : At) (l : List Vbtoad.Step), σ = [some (.ref a), some (.ref tr), some (.ref cl)] ∧ μ = mu n d (worthsM n d s.k) s.p s.t ∧ Kp [tr, sl] H G ∧ Tabs (tabT K) G ∧ TrIs K G tr sl s l ∧ PlayInv n d out s0 s l, ⟨_, s0, [], rfl, rfl, Kp.refl _ _, hTb, hT, PlayInv.start W hp ht⟩, ?_⟩
    rintro μ σ G ⟨s1, l, rfl, rfl, kG, tG, hTr, I⟩
    have hOG := hO.kp (kG.mono sub)
    refine ⟨_, rfl, _, rfl, S, a, tr, sl, n, d, m, s1, l, rfl, hOG.at_, hTr, Nat.le_trans I.kk hk, I.pl, fun H1 e1 => ⟨_, rfl, ?_⟩⟩
    by_cases c : goesOn n d s1 = true
    · refine ifT c ⟨fun σ' G' => ∃ (s : At) (l : List Vbtoad.Step), σ' = [some (.ref a), some (.ref tr), some (.ref cl)] ∧ mu n d (worthsM n d s.k) s.p s.t < mu n d (worthsM n d s1.k) s1.p s1.t ∧ Kp [tr, sl] H G' ∧ Tabs (tabT K) G' ∧ TrIs K G' tr sl s l ∧ PlayInv n d out s0 s l, fun σ' G' ⟨s2, l2, h1, h2, h3, h4, h5, h6⟩ => ⟨_, h2, s2, l2, h1, rfl, h3, h4, h5, h6⟩, ?_⟩
      obtain ⟨c1, c2⟩ := goesOn_iff.mp c
      obtain ⟨act, s2, x, ea, es⟩ := stepM_some W out I.pl c1 c2
      have k1 : Kp [] G H1 := Kp.same e1
      refine ⟨_, rfl, _, rfl, _, rfl, _, rfl, S, a, tr, sl, n, d, m, s1, l, act, rfl, (hOG.ext k1).at_, hTr.ext k1, Nat.le_trans I.kk hk, I.pl, tG.ext e1, ea, fun ch H2 x2 t2 f2 c2 => ?_⟩
      have k2 : Kp [] G H2 := k1.trans (Kp.ext x2)
      have ncl2 : cl ∉ [tr, sl] := fun z => ncl (sub _ z)
      refine ⟨_, rfl, S, a, tr, sl, ch, cl, n, d, rowsTo n d (m + 1), s1, l, act, out, s2, x, rfl, hOG.ext k2, htr, hsl, hTr.ext k2, ?_, c2, SqL.of (k2.lst (kG.lst hcl ncl2) (by simp)), ea, es, fun H3 k3 t3 T3 => ?_⟩
      · have := I.ms
        omega
      · obtain ⟨I2, mm⟩ := I.step W es
        exact ⟨s2, l ++ [x], rfl, mm, (kG.trans (k2.mono (by simp))).trans k3, tabs_kt t2 t3, T3, I2⟩
    · refine ifF (Bool.eq_false_iff.mpr c) ?_
      refine q H1 s1 l (kG.trans (Kp.same e1)) (tG.ext e1) (hTr.ext (Kp.same e1)) ?_ (I.done W (goesOn_no (Bool.eq_false_iff.mpr c)))
      have := I.ms
      omega
def sp_play_worst_case (K : PySem.W.Frag) : Sp := fun vs H Q _ => ∃ (S : List Addr) (a tr sl : Addr) (n : Vbtoad.Net) (d m : Nat) (s : At), vs = [.ref a, .ref tr] ∧ OutSt K S H a n d (rowsTo n d (m + 1)) ∧ tr ∈ S ∧ sl ∈ S ∧ Owned S H ∧ TrIs K H tr sl s [] ∧ s.k ≤ m ∧ s.p < n.places.length ∧ s.t ≤ 101000 ∧ Tabs (tabT K) H ∧
  ∀ H1 cl, Kp [tr, sl] H H1 → Tabs (tabT K) H1 → Fresh H cl → H1 cl = some (.lst (nv (Vbtoad.worst n (Vbtoad.roadsOf n) d Vbtoad.FUEL s.k s.p s.t))) → (Vbtoad.worst n (Vbtoad.roadsOf n) d Vbtoad.FUEL s.k s.p s.t).length ≤ 300 → Q (.ref cl) H1
theorem sc_play_worst_case : FnScope ["outlook", "traveller", "cancelled", "choice"] ["outlook", "traveller"] d_play_worst_case.scope := ⟨rfl, rfl, rfl, by decide +kernel, rfl, by decide +kernel, by decide +kernel⟩
theorem ok_play_worst_case (T : Fx K mg base) : FnX P w K mg base 5 "play_worst_case" (sp_play_worst_case K) := by
  obtain ⟨fd, F⟩ := F_play_worst_case T
  refine ⟨⟨_, fd, ["outlook", "traveller"], F.ok sc_play_worst_case (fun vs H Q E h => ?_) (fun cdv A outer s H vs Q E hr h => ⟨_, pss_cons (ps_set (i := 2) sc_play_worst_case.nd rfl (Or.inl rfl) (pe_lst (pa_nil))) (pss_cons (ps_while (passes_of rfl) (pt_val (pe_c0 (ok_goes_on T) hr (by decide) rfl (pa_cons (pv 0) (pa_cons (pv 1) pa_nil)))) (pss_cons (ps_set (i := 3) sc_play_worst_case.nd rfl (Or.inl rfl) (pe_cx (ok_choice_of T) hr (by decide) rfl (takes_of rfl rfl rfl rfl) (pa_cons (pv 0) (pa_cons (pv 1) pa_nil)))) (pss_cons (ps_if (PW.pt (pw_and (pt_cmpR op_eq (pe_fld (pv 3) rfl) (C8.pe_gc rfl (i_BY_DEPARTURE T)) (nomark _)) (pw_and1 (pt_val (pe_c0 (ok_is_worse_cancelled T) hr (by decide) rfl (pa_cons (pv 0) (pa_cons (pe_fld (pv 1) rfl) (pa_cons (pe_fld (pv 3) rfl) pa_nil)))))))) (pss_one (ps_expr (pe_bm PySem.F.plainAttrs_list PySem.F.slot_list_append PySem.F.type_list_append mt_append (pv 2) (pa_cons (pe_fld (pv 3) rfl) pa_nil)))) (pss_nil)) (pss_one (ps_expr (pe_c0 (ok_take_step T) hr (by decide) rfl (pa_cons (pv 0) (pa_cons (pv 1) (pa_cons (pv 3) (pa_cons (pv 2) pa_nil)))))))))) (pss_one (ps_ret (pv 2)))), ?_⟩), g_play_worst_case T, F.kp, F.bindsN (fun _ _ _ _ _ _ us hl => match us, hl with | [_, _], _ => rfl)⟩⟩
  · obtain ⟨S, a, tr, sl, n, d, m, s0, rfl, _⟩ := h
    rfl
  · obtain ⟨S, a, tr, sl, n, d, m, s0, rfl, hO, htr, hsl, hS, hT, hk, hp, ht, hTb, q⟩ := h
    have W : WF n := let ⟨_, _, _, i, _⟩ := hO.ex; i.wf
    refine ⟨Nat.zero_le _, fun cl hcl => ?_⟩
    have fcl : ∀ c ∈ [cl], Fresh H c := fun c m => by
      rw [List.mem_singleton.mp m]
      exact Fresh.none hcl
    have hO1 : OutSt K ([cl] ++ S) H a n d (rowsTo n d (m + 1)) := hO.fresh fcl
    have ncl : cl ∉ S := hS.fresh (Fresh.none hcl)
    have sub : ∀ b ∈ [cl, tr, sl], b ∈ [cl] ++ S := fun b hb => by
      rcases List.mem_cons.mp hb with rfl | hb
      · simp
      · rcases List.mem_cons.mp hb with rfl | hb
        · exact List.mem_append_right _ htr
        · rw [List.mem_singleton.mp hb]
          exact List.mem_append_right _ hsl
    have s0' : Same H (upd H cl (.lst [])) := same_new hcl
    refine ⟨fun μ σ G => ∃ (v : Option V) (s : At) (l : List Vbtoad.Step) (out : List Nat), σ = [some (.ref a), some (.ref tr), some (.ref cl), v] ∧ μ = mu n d (worthsM n d s.k) s.p s.t ∧ Kp [cl, tr, sl] H G ∧ Tabs (tabT K) G ∧ TrIs K G tr sl s l ∧ G cl = some (.lst (nv out)) ∧ WorstInv n d s0 s l out, ⟨_, none, s0, [], [], rfl, rfl, Kp.same s0', hTb.ext s0', hT.ext (Kp.same s0'), upd_same, WorstInv.start W hp ht⟩, ?_⟩
    rintro μ σ G ⟨v, s1, l, out, rfl, rfl, kG, tG, hTr, hcG, I⟩
    have hOG := hO1.kp (kG.mono sub)
    refine ⟨_, rfl, _, rfl, [cl] ++ S, a, tr, sl, n, d, m, s1, l, rfl, hOG.at_, hTr, Nat.le_trans I.kk hk, I.pl, fun H1 e1 => ⟨_, rfl, ?_⟩⟩
    have k1 : Kp [] G H1 := Kp.same e1
    by_cases c : goesOn n d s1 = true
    · refine ifT c ⟨fun σ' G' => ∃ (v : Option V) (s : At) (l : List Vbtoad.Step) (out : List Nat), σ' = [some (.ref a), some (.ref tr), some (.ref cl), v] ∧ mu n d (worthsM n d s.k) s.p s.t < mu n d (worthsM n d s1.k) s1.p s1.t ∧ Kp [cl, tr, sl] H G' ∧ Tabs (tabT K) G' ∧ TrIs K G' tr sl s l ∧ G' cl = some (.lst (nv out)) ∧ WorstInv n d s0 s l out, fun σ' G' ⟨v2, s2, l2, o2, h1, h2, h3, h4, h5, h6, h7⟩ => ⟨_, h2, v2, s2, l2, o2, h1, rfl, h3, h4, h5, h6, h7⟩, ?_⟩
      obtain ⟨c1, c2⟩ := goesOn_iff.mp c
      obtain ⟨s2, more, x, ew, es, I2, mm⟩ := I.step W c1 c2
      obtain ⟨act, _, _, ea, _⟩ := stepM_some W out I.pl c1 c2
      refine ⟨_, rfl, _, rfl, [cl] ++ S, a, tr, sl, n, d, m, s1, l, act, rfl, (hOG.ext k1).at_, hTr.ext k1, Nat.le_trans I.kk hk, I.pl, tG.ext e1, ea, fun ch H2 x2 t2 f2 c2 => ?_⟩
      have k2 : Kp [] G H2 := k1.trans (Kp.ext x2)
      have hTr2 := hTr.ext k2
      have hc2 : H2 cl = some (.lst (nv out)) := k2.lst hcG (by simp)
      have ctr : cl ≠ tr := fun z => ncl (by rw [z]; exact htr)
      have csl : cl ≠ sl := fun z => ncl (by rw [z]; exact hsl)
      have l300 : l.length ≤ 300 := by
        have := I.ms
        omega
      obtain ⟨dc, ec⟩ := id c2
      obtain ⟨dx, et⟩ := hTr2.obj
      -- what is done behind the test
      have rest : ∀ H3, Kp [cl] H2 H3 → Tabs (tabT K) H3 → H3 cl = some (.lst (nv (out ++ more))) → TrIs K H3 tr sl s1 l ∧ ChoiceAt K H3 ch act ∧ OutSt K ([cl] ++ S) H3 a n d (rowsTo n d (m + 1)) ∧ ∀ H4, Kp [tr, sl] H3 H4 → Kt H3 H4 → TrIs K H4 tr sl s2 (l ++ [x]) → Kp [cl, tr, sl] H H4 ∧ Tabs (tabT K) H4 ∧ H4 cl = some (.lst (nv (out ++ more))) := by
        intro H3 k3 t3 e3
        have chn : ch ∉ [cl] := by
          rw [List.mem_singleton]
          exact fun z => f2.ne_lst (k1.lst hcG (by simp)) z.symm
        refine ⟨⟨⟨dx, k3.ins et (by simpa using Ne.symm ctr)⟩, k3.lst hTr2.2 (by simpa using Ne.symm csl)⟩, ⟨dc, k3.ins ec chn⟩, (hOG.ext k2).kp (k3.mono (by simp)), fun H4 k4 t4 _ => ⟨?_, tabs_kt t3 t4, k4.lst e3 (by simp [ctr, csl])⟩⟩
        exact ((kG.trans (k2.mono (by simp))).trans (k3.mono (by simp))).trans (k4.mono (by simp))
      have htr1 : tr ∈ [cl] ++ S := List.mem_append_right _ htr
      have hsl1 : sl ∈ [cl] ++ S := List.mem_append_right _ hsl
      refine ⟨_, rfl, ch, _, dc, _, _, rfl, ec, c_Choice T, n_Choice_kind T, rfl, rfl, _, rfl, ?_⟩
      unfold stepW at ew
      rw [ea] at ew
      cases act with
      | there => cases ew
      | drive c =>
        have em : more = [] := by
          cases e : n.cars[c]? with
          | none =>
            simp only [e] at ew
            cases ew
          | some y =>
            simp only [e] at ew
            cases ew
            rfl
        subst em
        rw [List.append_nil] at es I2
        obtain ⟨r1, r2, r3, r4⟩ := rest H2 (Kp.refl _ _) t2 (by rw [List.append_nil]; exact hc2)
        refine ifF (decide_eq_false fun z => by have := V.int.inj z; cases this) (iteF ⟨_, rfl, _, rfl, _, rfl, _, rfl, [cl] ++ S, a, tr, sl, ch, cl, n, d, rowsTo n d (m + 1), s1, l, _, out, s2, x, rfl, r3, htr1, hsl1, r1, l300, r2, SqL.of hc2, ea, es, fun H4 k4 t4 T4 => ?_⟩)
        obtain ⟨y1, y2, y3⟩ := r4 H4 k4 t4 T4
        rw [List.append_nil] at y3
        exact ⟨_, s2, l ++ [x], out, rfl, mm, y1, y2, T4, y3, I2⟩
      | wait i =>
        cases eg : n.goes[i]? with
        | none =>
          simp only [eg] at ew
          cases ew
        | some g =>
          simp only [eg] at ew
          refine ifT (decide_eq_true rfl) ⟨_, rfl, _, rfl, tr, _, dx, _, _, rfl, et, c_Traveller T, n_Traveller_k T, rfl, _, rfl, ch, _, dc, _, _, rfl, ec, c_Choice T, n_Choice_number T, rfl, [cl] ++ S, a, n, d, m, s1.k, i, g, rfl, (hOG.ext k2).at_, Nat.le_trans I.kk hk, eg, fun H3 s3 => ⟨_, rfl, ?_⟩⟩
          by_cases cw : worseM n d s1.k g = true
          · rw [if_pos cw] at ew
            obtain ⟨_, em⟩ := Prod.mk.inj (Option.some.inj ew)
            subst em
            have ec3 := (Kp.same (S := []) s3).ins ec (by simp)
            refine ifT cw ⟨_, rfl, .inl ⟨rfl, _, SqL.of (s3 _ _ hc2)⟩, _, rfl, ch, _, dc, _, _, rfl, ec3, c_Choice T, n_Choice_number T, rfl, cl, _, _, rfl, rfl, s3 _ _ hc2, ?_, ?_⟩
            · rw [nv_len]
              have := I.ol
              exact small1000 (by omega)
            · obtain ⟨r1, r2, r3, r4⟩ := rest (upd H3 cl (.lst (nv out ++ [.int (i : Nat)]))) ((Kp.same s3).trans (Kp.upd (by simp))) (tabs_kt (t2.ext s3) (Kt.upd_lst (s3 _ _ hc2))) (by rw [upd_same, nv_append]; rfl)
              refine ⟨_, rfl, _, rfl, _, rfl, _, rfl, [cl] ++ S, a, tr, sl, ch, cl, n, d, rowsTo n d (m + 1), s1, l, _, out ++ [i], s2, x, rfl, r3, htr1, hsl1, r1, l300, r2, ?_, ea, es, fun H4 k4 t4 T4 => ?_⟩
              · refine SqL.of ?_
                rw [upd_same, nv_append]
                rfl
              · obtain ⟨y1, y2, y3⟩ := r4 H4 k4 t4 T4
                exact ⟨_, s2, l ++ [x], out ++ [i], rfl, mm, y1, y2, T4, y3, I2⟩
          · rw [if_neg cw] at ew
            obtain ⟨_, em⟩ := Prod.mk.inj (Option.some.inj ew)
            subst em
            rw [List.append_nil] at es I2
            obtain ⟨r1, r2, r3, r4⟩ := rest H3 (Kp.same s3) (t2.ext s3) (by rw [List.append_nil]; exact s3 _ _ hc2)
            refine ifF (Bool.eq_false_iff.mpr cw) ⟨_, rfl, _, rfl, _, rfl, _, rfl, [cl] ++ S, a, tr, sl, ch, cl, n, d, rowsTo n d (m + 1), s1, l, _, out, s2, x, rfl, r3, htr1, hsl1, r1, l300, r2, SqL.of (s3 _ _ hc2), ea, es, fun H4 k4 t4 T4 => ?_⟩
            obtain ⟨y1, y2, y3⟩ := r4 H4 k4 t4 T4
            rw [List.append_nil] at y3
            exact ⟨_, s2, l ++ [x], out, rfl, mm, y1, y2, T4, y3, I2⟩
    · refine ifF (Bool.eq_false_iff.mpr c) ⟨_, rfl, ?_⟩
      have dn := I.done W (goesOn_no (Bool.eq_false_iff.mpr c))
      have ol := I.ol
      have ms := I.ms
      refine q H1 cl ?_ (tG.ext e1) (Fresh.none hcl) (by rw [dn]; exact e1 _ _ hcG) (by rw [dn]; omega)
      intro b o hb eb tb
      refine e1 _ _ (kG b o (fun z => ?_) eb tb)
      rcases List.mem_cons.mp z with rfl | z
      · rw [hcl] at eb
        cases eb
      · exact hb z
end
end SJ
end
section
set_option Elab.async false
set_option linter.all false
set_option maxRecDepth 100000
set_option maxHeartbeats 4000000
/-! Whether what is handed over is as told. -/
namespace SJ
open PySem PySem.Spec PyProof.Rows L2 LamX
section
variable {P : Program} {w : World} {K : PySem.W.Frag} {mg : Str → Option Value} {base : Heap}
/-- a row as told -/
def sp_needR (K : PySem.W.Frag) (most highest : Int) : Sp := fun vs H Q E => ∃ (a : Addr) (ns : List Int), vs = [.ref a] ∧ SqL K H a (ns.map V.int) ∧ (¬ RowOk ns most highest → E (cNot K) none H) ∧ (RowOk ns most highest → Q .non H)
/-- a number within -/
def sp_needN (K : PySem.W.Frag) (lo hi : Int) : Sp := fun vs H Q E => ∃ a : Int, vs = [.int a] ∧ (Out a lo hi → E (cNot K) none H) ∧ (¬ Out a lo hi → Q .non H)
theorem sc_need_text : FnScope ["row"] ["row"] d_need_text.scope := ⟨rfl, rfl, rfl, by decide +kernel, rfl, by decide +kernel, by decide +kernel⟩
theorem ok_need_text (T : Fx K mg base) : FnX P w K mg base 3 "need_text" (sp_needR K 4000 255) := by
  obtain ⟨fd, F⟩ := F_need_text T
  refine ⟨⟨_, fd, ["row"], F.ok sc_need_text (fun vs H Q E h => ?_) (fun cdv A outer s H vs Q E hr h => ⟨_, pss_one (ps_expr (pe_cx (ok_need_row T) hr (by decide) rfl (takes_of rfl rfl rfl rfl) (pa_cons (pv 0) (pa_cons (C8.pe_gc rfl (i_LONGEST_TEXT T)) (pa_cons (C8.pe_gc rfl (i_HIGHEST_BYTE T)) pa_nil))))), ?_⟩), g_need_text T, F.kp, F.bindsN (fun _ _ _ _ _ _ us hl => match us, hl with | [_], _ => rfl)⟩⟩
  · obtain ⟨a, ns, rfl, _⟩ := h
    rfl
  · obtain ⟨a, ns, rfl, hA, h1, h2⟩ := h
    exact ⟨_, rfl, a, ns, 4000, 255, rfl, hA, h1, h2⟩
theorem sc_need_name : FnScope ["row"] ["row"] d_need_name.scope := ⟨rfl, rfl, rfl, by decide +kernel, rfl, by decide +kernel, by decide +kernel⟩
theorem ok_need_name (T : Fx K mg base) : FnX P w K mg base 3 "need_name" (sp_needR K 12 255) := by
  obtain ⟨fd, F⟩ := F_need_name T
  refine ⟨⟨_, fd, ["row"], F.ok sc_need_name (fun vs H Q E h => ?_) (fun cdv A outer s H vs Q E hr h => ⟨_, pss_one (ps_expr (pe_cx (ok_need_row T) hr (by decide) rfl (takes_of rfl rfl rfl rfl) (pa_cons (pv 0) (pa_cons (C8.pe_gc rfl (i_LONGEST_NAME T)) (pa_cons (C8.pe_gc rfl (i_HIGHEST_BYTE T)) pa_nil))))), ?_⟩), g_need_name T, F.kp, F.bindsN (fun _ _ _ _ _ _ us hl => match us, hl with | [_], _ => rfl)⟩⟩
  · obtain ⟨a, ns, rfl, _⟩ := h
    rfl
  · obtain ⟨a, ns, rfl, hA, h1, h2⟩ := h
    exact ⟨_, rfl, a, ns, 12, 255, rfl, hA, h1, h2⟩
theorem sc_need_played : FnScope ["row"] ["row"] d_need_played.scope := ⟨rfl, rfl, rfl, by decide +kernel, rfl, by decide +kernel, by decide +kernel⟩
theorem ok_need_played (T : Fx K mg base) : FnX P w K mg base 3 "need_played" (sp_needR K 30 29) := by
  obtain ⟨fd, F⟩ := F_need_played T
  refine ⟨⟨_, fd, ["row"], F.ok sc_need_played (fun vs H Q E h => ?_) (fun cdv A outer s H vs Q E hr h => ⟨_, pss_one (ps_expr (pe_cx (ok_need_row T) hr (by decide) rfl (takes_of rfl rfl rfl rfl) (pa_cons (pv 0) (pa_cons (C8.pe_gc rfl (i_MOST_PLAYED T)) (pa_cons (C8.pe_gc rfl (i_HIGHEST_PLAYED T)) pa_nil))))), ?_⟩), g_need_played T, F.kp, F.bindsN (fun _ _ _ _ _ _ us hl => match us, hl with | [_], _ => rfl)⟩⟩
  · obtain ⟨a, ns, rfl, _⟩ := h
    rfl
  · obtain ⟨a, ns, rfl, hA, h1, h2⟩ := h
    exact ⟨_, rfl, a, ns, 30, 29, rfl, hA, h1, h2⟩
theorem sc_need_shift : FnScope ["minutes"] ["minutes"] d_need_shift.scope := ⟨rfl, rfl, rfl, by decide +kernel, rfl, by decide +kernel, by decide +kernel⟩
theorem ok_need_shift (T : Fx K mg base) : FnX P w K mg base 2 "need_shift" (sp_needN K (-100000) 100000) := by
  obtain ⟨fd, F⟩ := F_need_shift T
  refine ⟨⟨_, fd, ["minutes"], F.ok sc_need_shift (fun vs H Q E h => ?_) (fun cdv A outer s H vs Q E hr h => ⟨_, pss_one (ps_expr (pe_cx (ok_need_between T) hr (by decide) rfl (takes_of rfl rfl rfl rfl) (pa_cons (pv 0) (pa_cons (pe_un un_neg (C8.pe_gc rfl (i_FARTHEST_SHIFT T))) (pa_cons (C8.pe_gc rfl (i_FARTHEST_SHIFT T)) pa_nil))))), ?_⟩), g_need_shift T, F.kp, F.bindsN (fun _ _ _ _ _ _ us hl => match us, hl with | [_], _ => rfl)⟩⟩
  · obtain ⟨a, rfl, _⟩ := h
    rfl
  · obtain ⟨a, rfl, h1, h2⟩ := h
    exact ⟨_, rfl, _, rfl, a, -100000, 100000, rfl, h1, h2⟩
theorem sc_need_k : FnScope ["k"] ["k"] d_need_k.scope := ⟨rfl, rfl, rfl, by decide +kernel, rfl, by decide +kernel, by decide +kernel⟩
theorem ok_need_k (T : Fx K mg base) : FnX P w K mg base 2 "need_k" (sp_needN K 0 3) := by
  obtain ⟨fd, F⟩ := F_need_k T
  refine ⟨⟨_, fd, ["k"], F.ok sc_need_k (fun vs H Q E h => ?_) (fun cdv A outer s H vs Q E hr h => ⟨_, pss_one (ps_expr (pe_cx (ok_need_between T) hr (by decide) rfl (takes_of rfl rfl rfl rfl) (pa_cons (pv 0) (pa_cons (pe_int) (pa_cons (C8.pe_gc rfl (i_HIGHEST_K T)) pa_nil))))), ?_⟩), g_need_k T, F.kp, F.bindsN (fun _ _ _ _ _ _ us hl => match us, hl with | [_], _ => rfl)⟩⟩
  · obtain ⟨a, rfl, _⟩ := h
    rfl
  · obtain ⟨a, rfl, h1, h2⟩ := h
    exact ⟨_, rfl, a, 0, 3, rfl, h1, h2⟩
theorem sc_need_minute : FnScope ["minute"] ["minute"] d_need_minute.scope := ⟨rfl, rfl, rfl, by decide +kernel, rfl, by decide +kernel, by decide +kernel⟩
theorem ok_need_minute (T : Fx K mg base) : FnX P w K mg base 2 "need_minute" (sp_needN K 0 100000) := by
  obtain ⟨fd, F⟩ := F_need_minute T
  refine ⟨⟨_, fd, ["minute"], F.ok sc_need_minute (fun vs H Q E h => ?_) (fun cdv A outer s H vs Q E hr h => ⟨_, pss_one (ps_expr (pe_cx (ok_need_between T) hr (by decide) rfl (takes_of rfl rfl rfl rfl) (pa_cons (pv 0) (pa_cons (pe_int) (pa_cons (C8.pe_gc rfl (i_LAST_MINUTE T)) pa_nil))))), ?_⟩), g_need_minute T, F.kp, F.bindsN (fun _ _ _ _ _ _ us hl => match us, hl with | [_], _ => rfl)⟩⟩
  · obtain ⟨a, rfl, _⟩ := h
    rfl
  · obtain ⟨a, rfl, h1, h2⟩ := h
    exact ⟨_, rfl, a, 0, 100000, rfl, h1, h2⟩
abbrev cPl (K : PySem.W.Frag) : Value := .ref (He.ga K "NoSuchPlace")
def PlacesOk (ns : List Int) : Prop := ∀ x ∈ ns, 0 ≤ x ∧ x ≤ 7
def PlacesIn (n : Vbtoad.Net) (ns : List Int) : Prop := ∀ x ∈ ns, x < (n.places.length : Int)
def sp_need_places (K : PySem.W.Frag) : Sp := fun vs H Q E => ∃ (S : List Addr) (na pa : Addr) (n : Vbtoad.Net) (ns : List Int), vs = [.ref na, .ref pa] ∧ NetAt K S H na n ∧ SqL K H pa (ns.map V.int) ∧ (¬ PlacesOk ns → E (cNot K) none H) ∧ (PlacesOk ns → ¬ PlacesIn n ns → E (cPl K) none H) ∧ (PlacesOk ns → PlacesIn n ns → Q .non H)
theorem sc_need_places : FnScope ["net", "places", "place"] ["net", "places"] d_need_places.scope := ⟨rfl, rfl, rfl, by decide +kernel, rfl, by decide +kernel, by decide +kernel⟩
theorem ok_need_places (T : Fx K mg base) : FnX P w K mg base 2 "need_places" (sp_need_places K) := by
  obtain ⟨fd, F⟩ := F_need_places T
  refine ⟨⟨_, fd, ["net", "places"], F.ok sc_need_places (fun vs H Q E h => ?_) (fun cdv A outer s H vs Q E hr h => ⟨_, pss_cons (ps_for (passes_of rfl) rfl (pi_list (pv 1)) (pg_name (i := 2) sc_need_places.nd rfl (Or.inl rfl)) (pss_one (ps_expr (pe_cx (ok_need_between T) hr (by decide) rfl (takes_of rfl rfl rfl rfl) (pa_cons (pv 2) (pa_cons (pe_int) (pa_cons (C8.pe_gc rfl (i_HIGHEST_PLACE T)) pa_nil))))))) (pss_one (ps_for (passes_of rfl) rfl (pi_list (pv 1)) (pg_name (i := 2) sc_need_places.nd rfl (Or.inl rfl)) (pss_one (ps_if (pt_cmpR op_ge (pv 2) (pe_callB call_len_seq (by rfl) (b_len T) (by decide +kernel) (pa_cons (pe_fld (pv 0) rfl) pa_nil)) (nomark _)) (pss_one (ps_raise0 rfl (T.exc rfl (g_NoSuchPlace T)) (takes_of rfl rfl rfl rfl) rfl)) (pss_nil))))), ?_⟩), g_need_places T, F.kp, F.bindsN (fun _ _ _ _ _ _ us hl => match us, hl with | [_, _], _ => rfl)⟩⟩
  · obtain ⟨S, na, pa, n, ns, rfl, _⟩ := h
    rfl
  · obtain ⟨S, na, pa, n, ns, rfl, hN, hA, h1, h2, h3⟩ := h
    obtain ⟨lp, lc, ld, ⟨⟨⟨dn, en⟩, ea⟩, ⟨ps, ep, rp⟩, _⟩, _⟩ := hN
    refine ⟨_, rfl, pa, rfl, ⟨_, hA⟩, for_it (walk_list (xs := ns.map V.int)) (fun i σ G => ∃ v, σ = [some (.ref na), some (.ref pa), v] ∧ G = H ∧ ∀ x ∈ ns.take i, 0 ≤ x ∧ x ≤ 7) ⟨none, rfl, rfl, by simp⟩ (fun i σ G _ ⟨_, _, e, _⟩ => e ▸ hA) ?_ ?_⟩
    · rintro i x σ G G2 hi ⟨v, rfl, rfl, ha⟩ ⟨rfl, hx⟩
      rw [List.getElem?_map] at hx
      obtain ⟨z, hz, rfl⟩ := Option.map_eq_some_iff.mp hx
      refine ⟨_, rfl, z, 0, 7, rfl, fun o => h1 fun r => ?_, fun no => ⟨some (.int z), rfl, rfl, fun y hy => ?_⟩⟩
      · have := r z (List.mem_of_getElem? hz)
        unfold Out at o
        omega
      · rw [List.take_add_one, hz] at hy
        rcases List.mem_append.mp hy with hy | hy
        · exact ha y hy
        · have : y = z := by simpa using hy
          rw [this]
          unfold Out at no
          omega
    · rintro σ G ⟨v, rfl, rfl, ha⟩
      rw [List.length_map, List.take_length] at ha
      refine ⟨_, rfl, pa, rfl, ⟨_, hA⟩, for_it (walk_list (xs := ns.map V.int)) (fun i σ G' => ∃ v, σ = [some (.ref na), some (.ref pa), v] ∧ G' = G ∧ ∀ x ∈ ns.take i, x < (n.places.length : Int)) ⟨_, rfl, rfl, by simp⟩ (fun i σ G _ ⟨_, _, e, _⟩ => e ▸ hA) ?_ ?_⟩
      · rintro i x σ G' G2 hi ⟨v, rfl, rfl, hb⟩ ⟨rfl, hx⟩
        rw [List.getElem?_map] at hx
        obtain ⟨z, hz, rfl⟩ := Option.map_eq_some_iff.mp hx
        refine ⟨_, rfl, _, rfl, na, _, dn, _, _, rfl, en, c_Net T, n_Net_places T, rfl, lp, ps, rfl, .inl (SqL.of ep), _, _, rfl, rfl, _, rfl, ?_⟩
        rw [rp.len]
        by_cases c : (n.places.length : Int) ≤ z
        · refine ifT (decide_eq_true c) (h2 ha fun r => ?_)
          have := r z (List.mem_of_getElem? hz)
          omega
        · refine ifF (decide_eq_false c) ⟨_, rfl, rfl, fun y hy => ?_⟩
          rw [List.take_add_one, hz] at hy
          rcases List.mem_append.mp hy with hy | hy
          · exact hb y hy
          · have : y = z := by simpa using hy
            rw [this]
            omega
      · rintro σ G' ⟨v, rfl, rfl, hb⟩
        rw [List.length_map, List.take_length] at hb
        exact h3 ha hb
end
end SJ
end
section
set_option Elab.async false
set_option linter.all false
set_option maxRecDepth 100000
set_option maxHeartbeats 4000000
/-! A thing by its name; how many of each; a session. -/
namespace SJ
open PySem PySem.Spec PyProof.Rows L2 LamX
/-- the number of the first place, car or departure of that name -/
def found (n : Vbtoad.Net) (t : List Nat) (j : Nat) : Option Nat := match j with
  | 0 => n.places.findIdx? fun p => p.name == t
  | 1 => n.cars.findIdx? fun c => c.name == t
  | 2 => Vbtoad.goAt n t
  | _ => none
section
variable {P : Program} {w : World} {K : PySem.W.Frag} {mg : Str → Option Value} {base : Heap}
def sp_kind_and_number (K : PySem.W.Frag) : Sp := fun vs H Q E => ∃ (S : List Addr) (na nm : Addr) (n : Vbtoad.Net) (t : List Nat), vs = [.ref na, .ref nm] ∧ NetAt K S H na n ∧ SqL K H nm (nv t) ∧ (found n t 0 = none → found n t 1 = none → found n t 2 = none → ∀ H1, Same H H1 → E (cNoName K) none H1) ∧
  ∀ k i, (∀ j, j < k → found n t j = none) → found n t k = some i → ∀ p H1, Same H H1 → H p = none → TextAt H1 p [k, i] → Q (.ref p) H1
theorem sc_kind_and_number : FnScope ["net", "name", "kind", "things", "number"] ["net", "name"] d_kind_and_number.scope := ⟨rfl, rfl, rfl, by decide +kernel, rfl, by decide +kernel, by decide +kernel⟩
theorem ok_kind_and_number (T : Fx K mg base) : FnX P w K mg base 2 "kind_and_number" (sp_kind_and_number K) := by
  obtain ⟨fd, F⟩ := F_kind_and_number T
  refine ⟨⟨_, fd, ["net", "name"], F.ok sc_kind_and_number (fun vs H Q E h => ?_) (fun cdv A outer s H vs Q E hr h => ⟨_, pss_cons (ps_for (passes_of rfl) rfl (pi_enum (by rfl) (b_enumerate T) (pa_cons (pe_lst (pa_cons (pe_fld (pv 0) rfl) (pa_cons (pe_fld (pv 0) rfl) (pa_cons (pe_fld (pv 0) rfl) pa_nil)))) pa_nil)) (pg_tup rfl (pgs_cons (pg_name (i := 2) sc_kind_and_number.nd rfl (Or.inl rfl)) (pgs_cons (pg_name (i := 3) sc_kind_and_number.nd rfl (Or.inl rfl)) pgs_nil))) (pss_cons (ps_set (i := 4) sc_kind_and_number.nd rfl (Or.inl rfl) (pe_c0 (ok_number_of_name T) hr (by decide) rfl (pa_cons (pv 3) (pa_cons (pv 1) pa_nil)))) (pss_one (ps_if (pt_cmpR op_ge (pv 4) (pe_int) (nomark _)) (pss_one (ps_ret (pe_lst (pa_cons (pv 2) (pa_cons (pv 4) pa_nil))))) (pss_nil))))) (pss_one (ps_raise0 rfl (T.exc rfl (g_NoSuchName T)) (takes_of rfl rfl rfl rfl) rfl)), ?_⟩), g_kind_and_number T, F.kp, F.bindsN (fun _ _ _ _ _ _ us hl => match us, hl with | [_, _], _ => rfl)⟩⟩
  · obtain ⟨S, na, nm, n, t, rfl, _⟩ := h
    rfl
  · obtain ⟨S, na, nm, n, t, rfl, hN, hA, h1, h2⟩ := h
    obtain ⟨lp, lc, ld, ⟨⟨⟨dn, en⟩, ea⟩, ⟨ps, ep, rp⟩, ⟨cs, ec, rc⟩, ⟨ds, ed, rd⟩⟩, _⟩ := hN
    refine ⟨_, rfl, na, _, dn, _, _, rfl, en, c_Net T, n_Net_places T, rfl, _, rfl, na, _, dn, _, _, rfl, en, c_Net T, n_Net_cars T, rfl, _, rfl, na, _, dn, _, _, rfl, en, c_Net T, n_Net_departures T, rfl, by show 3 ≤ sizeLine; rw [sizeLine_eq]; omega, fun tl htl => ?_⟩
    have s0 : Same H (upd H tl (.lst [.ref lp, .ref lc, .ref ld])) := same_new htl
    have each : ∀ (i : Nat) (z : V), ([.ref lp, .ref lc, .ref ld] : List V)[i]? = some z → ∃ l xs ts, z = .ref l ∧ H l = some (.lst xs) ∧ Each (NamedAt K H) xs ts ∧ ts.findIdx? (fun x => x == t) = found n t i := by
      intro i z hz
      match i, hz with
      | 0, hz =>
        cases hz
        refine ⟨lp, ps, _, rfl, ep, rp.map (f := fun p => p.name) fun b x r => PlaceAt.named T r, ?_⟩
        rw [List.findIdx?_map]
        rfl
      | 1, hz =>
        cases hz
        refine ⟨lc, cs, _, rfl, ec, rc.map (f := fun p => p.name) fun b x r => CarAt.named T r, ?_⟩
        rw [List.findIdx?_map]
        rfl
      | 2, hz =>
        cases hz
        exact ⟨ld, ds, _, rfl, ed, rd.map (f := fun p => p.name) fun b x r => GoAt.named T r, goAt_is n t⟩
    refine ⟨tl, _, rfl, SqL.of upd_same, for_it (walk_enum (xs := [.ref lp, .ref lc, .ref ld])) (fun i σ G => ∃ v2 v3 v4, σ = [some (.ref na), some (.ref nm), v2, v3, v4] ∧ Same (upd H tl (.lst [.ref lp, .ref lc, .ref ld])) G ∧ ∀ j, j < i → found n t j = none) ⟨none, none, none, rfl, Same.refl _, fun j hj => by omega⟩ (fun i σ G _ ⟨_, _, _, _, s, _⟩ => SqL.of (s _ _ upd_same)) ?_ ?_⟩
    · rintro i x σ G G2 hi ⟨v2, v3, v4, rfl, s1, no⟩ ⟨tp, y, z, rfl, htp, rfl, hy, hz⟩
      obtain rfl := Option.some.inj hy
      obtain ⟨l, xs, ts, rfl, el, rl, ef⟩ := each i z hz
      have s2 := same_new (o := .tup [.int (i : Nat), .ref l]) htp
      have sb := (s0.trans s1).trans s2
      refine ⟨tp, _, rfl, SqT.of upd_same, rfl, _, _, rfl, _, _, rfl, rfl, ?_⟩
      refine ⟨_, rfl, _, rfl, l, nm, xs, ts, t, rfl, SqL.of (sb _ _ el), rl.mono fun _ _ r => r.same sb, sb.seq hA, fun G3 s3 => ?_⟩
      rw [ef]
      refine ⟨_, rfl, _, _, rfl, rfl, _, rfl, ?_⟩
      cases ff : found n t i with
      | none =>
        refine ifF (decide_eq_false (by show ¬ (0 : Int) ≤ -1; decide)) ⟨_, _, _, rfl, s1.trans (s2.trans s3), fun j hj => ?_⟩
        rcases Nat.lt_or_ge j i with c | c
        · exact no j c
        · obtain rfl : j = i := by omega
          exact ff
      | some m =>
        refine ifT (decide_eq_true (show (0 : Int) ≤ (m : Int) by omega)) ⟨_, rfl, _, rfl, by show 2 ≤ sizeLine; rw [sizeLine_eq]; omega, fun r hr => ?_⟩
        exact h2 i m no ff r _ ((sb.trans s3).trans (same_new hr)) ((sb.trans s3).free hr) upd_same
    · rintro σ G ⟨v2, v3, v4, rfl, s1, no⟩
      exact h1 (no 0 (show 0 < 3 by decide)) (no 1 (show 1 < 3 by decide)) (no 2 (show 2 < 3 by decide)) G (s0.trans s1)
def sizesM (n : Vbtoad.Net) : List Nat := [0, n.places.length, n.cars.length, n.goes.length]
def sp_sizes_of (K : PySem.W.Frag) : Sp := fun vs H Q _ => ∃ (S : List Addr) (na : Addr) (n : Vbtoad.Net), vs = [.ref na] ∧ NetAt K S H na n ∧ NewText H Q (sizesM n)
theorem sc_sizes_of : FnScope ["net"] ["net"] d_sizes_of.scope := ⟨rfl, rfl, rfl, by decide +kernel, rfl, by decide +kernel, by decide +kernel⟩
theorem ok_sizes_of (T : Fx K mg base) : Fn0 P w K mg base 1 "sizes_of" (sp_sizes_of K) := by
  obtain ⟨fd, F⟩ := F_sizes_of T
  refine ⟨⟨_, fd, ["net"], F.ok sc_sizes_of (fun vs H Q E h => ?_) (fun cdv A outer s H vs Q E hr h => ⟨_, PSs.nox (pss_one (ps_ret (pe_lst (pa_cons (pe_int) (pa_cons (pe_callB call_len_seq (by rfl) (b_len T) (by decide +kernel) (pa_cons (pe_fld (pv 0) rfl) pa_nil)) (pa_cons (pe_callB call_len_seq (by rfl) (b_len T) (by decide +kernel) (pa_cons (pe_fld (pv 0) rfl) pa_nil)) (pa_cons (pe_callB call_len_seq (by rfl) (b_len T) (by decide +kernel) (pa_cons (pe_fld (pv 0) rfl) pa_nil)) pa_nil))))))), ?_⟩), g_sizes_of T, F.kp, F.bindsN (fun _ _ _ _ _ _ us hl => match us, hl with | [_], _ => rfl)⟩⟩
  · obtain ⟨S, na, n, rfl, _⟩ := h
    rfl
  · obtain ⟨S, na, n, rfl, hN, q⟩ := h
    obtain ⟨lp, lc, ld, ⟨⟨⟨dn, en⟩, ea⟩, ⟨ps, ep, rp⟩, ⟨cs, ec, rc⟩, ⟨ds, ed, rd⟩⟩, _⟩ := hN
    refine ⟨_, rfl, na, _, dn, _, _, rfl, en, c_Net T, n_Net_places T, rfl, lp, ps, rfl, .inl (SqL.of ep), _, rfl, na, _, dn, _, _, rfl, en, c_Net T, n_Net_cars T, rfl, lc, cs, rfl, .inl (SqL.of ec), _, rfl, na, _, dn, _, _, rfl, en, c_Net T, n_Net_departures T, rfl, ld, ds, rfl, .inl (SqL.of ed), by show 4 ≤ sizeLine; rw [sizeLine_eq]; omega, fun r hr => ?_⟩
    refine q r _ (same_new hr) hr ?_
    rw [rp.len, rc.len, rd.len]
    exact upd_same
def SessAt (K : PySem.W.Frag) (H : Hp) (sa na : Addr) : Prop := ∃ dx, H sa = some (.ins (He.ga K "Session") dx [("net", .ref na)])
def sp_Session_init (K : PySem.W.Frag) : Sp := fun vs H Q _ => ∃ (p dx : Addr), vs = [.ref p] ∧ H p = some (.ins (He.ga K "Session") dx []) ∧ ∀ H1 na, SessAt K H1 p na → NetAt K [p] H1 na Vbtoad.empty → Keeps [p] H H1 → Q .non H1
theorem sc_Session_init : FnScope ["self"] ["self"] d_Session_init.scope := ⟨rfl, rfl, rfl, by decide +kernel, rfl, by decide +kernel, by decide +kernel⟩
theorem ok_Session_init (T : Fx K mg base) : Mk0 P w K mg base 3 "Session" (sp_Session_init K) := by
  obtain ⟨fd, F⟩ := F_Session_init T
  refine ⟨⟨_, fd, ["self"], m_Session T, F.ok sc_Session_init (fun vs H Q E h => ?_) (fun cdv A outer s H vs Q E hr h => ⟨_, PSs.nox (pss_one (ps_fld (pv 0) (pe_k00 (ok_Net_init T) hr (by decide) rfl) rfl)), ?_⟩), g_Session T, F.bindsN (fun _ _ _ _ _ _ us hl => match us, hl with | [_], _ => rfl)⟩⟩
  · obtain ⟨p, dx, rfl, _⟩ := h
    rfl
  · obtain ⟨p, dx, rfl, hp, q⟩ := h
    intro x dn hx hdn nd
    refine ⟨x, dn, rfl, upd_same, fun H1 lp lc ld n1 n2 n3 d1 d2 d3 e1 e2 e3 e4 k => ⟨rfl, ?_⟩⟩
    have px : p ≠ x := ne_of_none hp hx
    have pd : p ≠ dn := ne_of_none hp hdn
    have hpx : (upd (upd H dn (.own x)) x (.ins (He.ga K "Net") dn [])) p = some (.ins (He.ga K "Session") dx []) := by
      rw [upd_ne px, upd_ne pd]
      exact hp
    have new : ∀ c, (upd (upd H dn (.own x)) x (.ins (He.ga K "Net") dn [])) c = none → c ≠ p := fun c hc z => by
      rw [z, hpx] at hc
      cases hc
    have k1 : Keeps [p] H H1 := fun b o hb eb => by
      have bx : b ≠ x := ne_of_none eb hx
      have bd : b ≠ dn := ne_of_none eb hdn
      refine k b o bx ?_
      rw [upd_ne bx, upd_ne bd]
      exact eb
    refine ⟨_, rfl, p, _, dx, _, rfl, k p _ px hpx, c_Session T, n_Session_net T, (by show 0 < 1000; decide), ?_⟩
    refine q _ x ⟨dx, upd_same⟩ ⟨lp, lc, ld, ⟨⟨⟨dn, (upd_ne (Ne.symm px)).trans e1⟩, by simpa using Ne.symm px⟩, ⟨[], (upd_ne (new _ n1)).trans e2, Each.nil⟩, ⟨[], (upd_ne (new _ n2)).trans e3, Each.nil⟩, ⟨[], (upd_ne (new _ n3)).trans e4, Each.nil⟩⟩, by simpa using new _ n1, by simpa using new _ n2, by simpa using new _ n3⟩ (k1.trans (keeps_upd (by simp)))
end
end SJ
end
section
set_option Elab.async false
set_option linter.all false
set_option maxRecDepth 100000
set_option maxHeartbeats 4000000
/-! Ways and outlooks made for a call. -/
namespace SJ
open PySem PySem.Spec PyProof.Rows L2 LamX
section
variable {K : PySem.W.Frag} {S : List Addr} {H H1 : Hp}
theorem Owned.used (h : Owned S H) : Used S H := fun c m z => by
  rcases h c m with ⟨xs, e⟩ | ⟨C, dx, fs, e⟩
  · rw [z] at e
    cases e
  · rw [z] at e
    cases e
theorem same_two {x dx : Addr} {o u : HO} (hx : H x = none) (hd : H dx = none) (nd : dx ≠ x) : Same H (upd (upd H dx o) x u) := (same_new hd).trans (same_new ((upd_ne (Ne.symm nd)).trans hx))
theorem Owned.same (h : Owned S H) (s : Same H H1) : Owned S H1 := h.ext (Kp.same s)
theorem net_made {x dx na : Addr} {o u : HO} {n : Vbtoad.Net} (hN : NetAt K S H na n) (hx : H x = none) (hd : H dx = none) (nd : dx ≠ x) : NetAt K ([x] ++ S) (upd (upd H dx o) x u) na n :=
  (hN.fresh (fun c m => by rw [List.mem_singleton.mp m]; exact Fresh.none hx)).kp (Kp.same (same_two hx hd nd))
theorem ways_kept {x dx wa : Addr} {o u : HO} {n : Vbtoad.Net} (hN : WaysAt K S H wa n) (hx : H x = none) (hd : H dx = none) (nd : dx ≠ x) : WaysAt K ([x] ++ S) (upd (upd H dx o) x u) wa n :=
  (hN.fresh (fun c m => by rw [List.mem_singleton.mp m]; exact Fresh.none hx)).kp (Kp.same (same_two hx hd nd))
theorem ways_done {x dx ca ra : Addr} {n : Vbtoad.Net} (hS : Owned S H) (hx : H x = none) (hd : H dx = none) (nd : dx ≠ x) (e1 : H1 x = some (.ins (He.ga K "Ways") dx [("coming", .ref ca), ("ready", .ref ra)]))
    (t1 : TabNew (upd (upd H dx (.own x)) x (.ins (He.ga K "Ways") dx [])) H1 ca (rowsOf n.places.length (D n))) (t2 : TabNew (upd (upd H dx (.own x)) x (.ins (He.ga K "Ways") dx [])) H1 ra (rowsOf n.places.length (R n)))
    (k : ∀ b o, b ≠ x → (upd (upd H dx (.own x)) x (.ins (He.ga K "Ways") dx [])) b = some o → H1 b = some o) : Same H H1 ∧ WaysAt K S H1 x n := by
  have s0 : Same H (upd (upd H dx (.own x)) x (.ins (He.ga K "Ways") dx [])) := same_two hx hd nd
  have u0 : Used S (upd (upd H dx (.own x)) x (.ins (He.ga K "Ways") dx [])) := (hS.same s0).used
  exact ⟨fun b o eb => k b o (ne_of_none eb hx) (s0 _ _ eb), dx, ca, ra, e1, hS.used.new hx, t1.at_ u0, t2.at_ u0⟩
theorem out_done {x dx na wa wl : Addr} {n : Vbtoad.Net} {d m : Nat} {xs : List V} (hN : NetAt K S H na n) (hWy : WaysAt K S H wa n) (W : WF n) (hdn : d < n.places.length) (hS : Owned S H) (hx : H x = none) (hd : H dx = none) (nd : dx ≠ x)
    (k1 : Kp [x] (upd (upd H dx (.own x)) x (.ins (He.ga K "Outlook") dx [])) H1) (e1 : H1 x = some (.ins (He.ga K "Outlook") dx [("net", .ref na), ("ways", .ref wa), ("goal", .int (d : Nat)), ("worths", .ref wl)])) (e2 : H1 wl = some (.lst xs))
    (f1 : Fresh (upd (upd H dx (.own x)) x (.ins (He.ga K "Outlook") dx [])) wl) (r1 : Each (TextAt H1) xs (rowsTo n d (m + 1))) (rn : RowsNew (upd (upd H dx (.own x)) x (.ins (He.ga K "Outlook") dx [])) xs) : Kp [] H H1 ∧ OutSt K S H1 x n d (rowsTo n d (m + 1)) := by
  have s0 : Same H (upd (upd H dx (.own x)) x (.ins (He.ga K "Outlook") dx [])) := same_two hx hd nd
  have N0 := net_made (o := .own x) (u := .ins (He.ga K "Outlook") dx []) hN hx hd nd
  have W0 := ways_kept (o := .own x) (u := .ins (He.ga K "Outlook") dx []) hWy hx hd nd
  have S0 := hS.same s0
  refine ⟨fun b o _ eb tb => k1 b o ?_ (s0 _ _ eb) tb, ?_⟩
  · rw [List.mem_singleton]
    exact ne_of_none eb hx
  · have kS : Kp ([x] ++ S) (upd (upd H dx (.own x)) x (.ins (He.ga K "Outlook") dx [])) H1 := k1.mono (by simp)
    have ls : ∀ c, c ∉ [x] ++ S → c ∉ S := fun c h m => h (List.mem_append_right _ m)
    refine ⟨na, wa, wl, ⟨⟨⟨dx, e1⟩, hS.used.new hx⟩, (N0.kp kS).less ls, (W0.kp kS).less ls, W, hdn, ⟨xs, e2, r1⟩, fun r hr => ?_⟩, S0.fresh f1, fun ys ey v hv b hb => ?_⟩
    · unfold rowsTo at hr
      obtain ⟨i, _, rfl⟩ := List.mem_map.mp hr
      exact worthsM_len n d i
    · rw [e2] at ey
      cases ey
      exact S0.fresh (rn v hv b hb)
theorem SessAt.kp {sa na : Addr} (h : SessAt K H sa na) (k : Kp [] H H1) : SessAt K H1 sa na := let ⟨dx, e⟩ := h; ⟨dx, k.ins e (by simp)⟩
end
section
variable {P : Program} {w : World} {K : PySem.W.Frag} {mg : Str → Option Value} {base : Heap}
/-- what is at hand in a call -/
structure Hand (K : PySem.W.Frag) (S : List Addr) (H : Hp) (sa na : Addr) (n : Vbtoad.Net) : Prop where
  se : SessAt K H sa na
  net : NetAt K S H na n
  wf : WF n
  own : Owned S H
  tb : Tabs (tabT K) H
theorem Hand.same {S : List Addr} {H H1 : Hp} {sa na : Addr} {n : Vbtoad.Net} (h : Hand K S H sa na n) (s : Same H H1) : Hand K S H1 sa na n := ⟨h.se.kp (Kp.same s), h.net.same s, h.wf, h.own.same s, h.tb.ext s⟩
theorem Hand.ext {S : List Addr} {H H1 : Hp} {sa na : Addr} {n : Vbtoad.Net} (h : Hand K S H sa na n) (k : Kp [] H H1) (t : Tabs (tabT K) H1) : Hand K S H1 sa na n := ⟨h.se.kp k, h.net.kp (k.mono (by simp)), h.wf, h.own.ext k, t⟩
/-- an outlook is handed on -/
def NewOut (K : PySem.W.Frag) (S : List Addr) (H : Hp) (Q : VK) (n : Vbtoad.Net) (d m : Nat) : Prop := ∀ o H1, Kp [] H H1 → Tabs (tabT K) H1 → OutSt K S H1 o n d (rowsTo n d (m + 1)) → Q (.ref o) H1
def sp_outlook_to (K : PySem.W.Frag) : Sp := fun vs H Q _ => ∃ (S : List Addr) (sa na : Addr) (n : Vbtoad.Net) (d m : Nat), vs = [.ref sa, .int (d : Nat), .int (m : Nat)] ∧ Hand K S H sa na n ∧ d < n.places.length ∧ m ≤ 3 ∧ NewOut K S H Q n d m
theorem sc_outlook_to : FnScope ["session", "goal", "most"] ["session", "goal", "most"] d_outlook_to.scope := ⟨rfl, rfl, rfl, by decide +kernel, rfl, by decide +kernel, by decide +kernel⟩
theorem ok_outlook_to (T : Fx K mg base) : Fn0 P w K mg base 8 "outlook_to" (sp_outlook_to K) := by
  obtain ⟨fd, F⟩ := F_outlook_to T
  refine ⟨⟨_, fd, ["session", "goal", "most"], F.ok sc_outlook_to (fun vs H Q E h => ?_) (fun cdv A outer s H vs Q E hr h => ⟨_, PSs.nox (pss_one (ps_ret (pe_k0 (ok_Outlook_init T) hr (by decide) rfl (pa_cons (pe_fld (pv 0) rfl) (pa_cons (pe_k0 (ok_Ways_init T) hr (by decide) rfl (pa_cons (pe_fld (pv 0) rfl) pa_nil)) (pa_cons (pv 1) (pa_cons (pv 2) pa_nil))))))), ?_⟩), g_outlook_to T, F.kp, F.bindsN (fun _ _ _ _ _ _ us hl => match us, hl with | [_, _, _], _ => rfl)⟩⟩
  · obtain ⟨S, sa, na, n, d, m, rfl, _⟩ := h
    rfl
  · obtain ⟨S, sa, na, n, d, m, rfl, hH, hd, hm, q⟩ := h
    obtain ⟨ds, es⟩ := hH.se
    refine ⟨_, rfl, sa, _, ds, _, _, rfl, es, c_Session T, n_Session_net T, rfl, _, rfl, sa, _, ds, _, _, rfl, es, c_Session T, n_Session_net T, rfl, fun x dx hx hdx nd => ?_⟩
    refine ⟨[x] ++ S, x, dx, na, n, rfl, upd_same, by simp, net_made hH.net hx hdx nd, hH.wf, fun H1 ca ra e1 t1 t2 k => ⟨rfl, ?_⟩⟩
    obtain ⟨s1, w1⟩ := ways_done hH.own hx hdx nd e1 t1 t2 k
    have h1 := hH.same s1
    refine ⟨_, rfl, _, rfl, fun o dd ho hdo ndo => ?_⟩
    refine ⟨[o] ++ S, o, dd, na, x, n, d, m, rfl, upd_same, by simp, net_made h1.net ho hdo ndo, ways_kept w1 ho hdo ndo, h1.wf, hd, hm, h1.tb.ext (same_two ho hdo ndo), fun H2 wl xs k1 t1 e1 e2 f1 r1 rn => ⟨rfl, ?_⟩⟩
    obtain ⟨k2, o2⟩ := out_done h1.net w1 h1.wf hd h1.own ho hdo ndo k1 e1 e2 f1 r1 rn
    exact q o H2 ((Kp.same s1).trans k2) t1 o2
def sp_outlook_of (K : PySem.W.Frag) : Sp := fun vs H Q _ => ∃ (S : List Addr) (sa na la : Addr) (n : Vbtoad.Net) (k d : Nat) (t p : Int), vs = [.ref sa, .ref la] ∧ Hand K S H sa na n ∧ SqL K H la ([(k : Int), t, p, (d : Int)].map V.int) ∧ d < n.places.length ∧ k ≤ 3 ∧ NewOut K S H Q n d k
theorem sc_outlook_of : FnScope ["session", "numbers"] ["session", "numbers"] d_outlook_of.scope := ⟨rfl, rfl, rfl, by decide +kernel, rfl, by decide +kernel, by decide +kernel⟩
theorem ok_outlook_of (T : Fx K mg base) : Fn0 P w K mg base 9 "outlook_of" (sp_outlook_of K) := by
  obtain ⟨fd, F⟩ := F_outlook_of T
  refine ⟨⟨_, fd, ["session", "numbers"], F.ok sc_outlook_of (fun vs H Q E h => ?_) (fun cdv A outer s H vs Q E hr h => ⟨_, PSs.nox (pss_one (ps_ret (pe_c0 (ok_outlook_to T) hr (by decide) rfl (pa_cons (pv 0) (pa_cons (pe_ix ix_list (pv 1) (pe_int) (fun _ _ => rfl)) (pa_cons (pe_ix ix_list (pv 1) (pe_int) (fun _ _ => rfl)) pa_nil)))))), ?_⟩), g_outlook_of T, F.kp, F.bindsN (fun _ _ _ _ _ _ us hl => match us, hl with | [_, _], _ => rfl)⟩⟩
  · obtain ⟨S, sa, na, la, n, k, d, t, p, rfl, _⟩ := h
    rfl
  · obtain ⟨S, sa, na, la, n, k, d, t, p, rfl, hH, hL, hd, hk, q⟩ := h
    exact ⟨_, rfl, _, rfl, la, _, 3, _, rfl, rfl, hL, atI_nat (j := 3) rfl, _, rfl, la, _, 0, _, rfl, rfl, hL, atI_nat (j := 0) rfl, S, sa, na, n, d, k, rfl, hH, hd, hk, q⟩
def sp_need_some (K : PySem.W.Frag) : Sp := fun vs H Q E => ∃ m : Nat, vs = [.int (m : Nat)] ∧ (m = NEVER → E (cNS K) none H) ∧ (m ≠ NEVER → Q .non H)
theorem sc_need_some : FnScope ["minutes"] ["minutes"] d_need_some.scope := ⟨rfl, rfl, rfl, by decide +kernel, rfl, by decide +kernel, by decide +kernel⟩
theorem ok_need_some (T : Fx K mg base) : FnX P w K mg base 1 "need_some" (sp_need_some K) := by
  obtain ⟨fd, F⟩ := F_need_some T
  refine ⟨⟨_, fd, ["minutes"], F.ok sc_need_some (fun vs H Q E h => ?_) (fun cdv A outer s H vs Q E hr h => ⟨_, pss_one (ps_if (pt_cmpR op_eq (pv 0) (C8.pe_gc rfl (i_NEVER T)) (nomark _)) (pss_one (ps_raise0 rfl (T.exc rfl (g_NothingSure T)) (takes_of rfl rfl rfl rfl) rfl)) (pss_nil)), ?_⟩), g_need_some T, F.kp, F.bindsN (fun _ _ _ _ _ _ us hl => match us, hl with | [_], _ => rfl)⟩⟩
  · obtain ⟨m, rfl, _⟩ := h
    rfl
  · obtain ⟨m, rfl, h1, h2⟩ := h
    refine ⟨_, rfl, rfl, _, rfl, ?_⟩
    by_cases c : V.int ((m : Nat) : Int) = V.int 1000000000
    · refine ifT (decide_eq_true c) (h1 ?_)
      have := V.int.inj c
      unfold NEVER
      omega
    · refine ifF (decide_eq_false c) (h2 fun z => c (by rw [z]; rfl))
theorem cut_from {xs : List V} {j : Nat} (h : j ≤ xs.length) : cutV xs (some (j : Int)) none = xs.drop j := by
  unfold cutV
  rw [HT.sIx_nat, HT.sIx_none, Nat.min_eq_left h]
  exact List.take_of_length_le (by rw [List.length_drop]; exact Nat.le_refl _)
def sp_need_start (K : PySem.W.Frag) : Sp := fun vs H Q E => ∃ (S : List Addr) (sa na la : Addr) (n : Vbtoad.Net) (k t : Int) (ps : List Int), vs = [.ref sa, .ref la] ∧ Hand K S H sa na n ∧ SqL K H la ((k :: t :: ps).map V.int) ∧ ps.length ≤ 10 ∧ (Out k 0 3 ∨ Out t 0 100000 ∨ ¬ PlacesOk ps → ∀ H1, Same H H1 → E (cNot K) none H1) ∧ (¬ Out k 0 3 → ¬ Out t 0 100000 → PlacesOk ps → ¬ PlacesIn n ps → ∀ H1, Same H H1 → E (cPl K) none H1) ∧ (¬ Out k 0 3 → ¬ Out t 0 100000 → PlacesOk ps → PlacesIn n ps → ∀ H1, Same H H1 → Q .non H1)
theorem sc_need_start : FnScope ["session", "numbers"] ["session", "numbers"] d_need_start.scope := ⟨rfl, rfl, rfl, by decide +kernel, rfl, by decide +kernel, by decide +kernel⟩
theorem ok_need_start (T : Fx K mg base) : FnX P w K mg base 3 "need_start" (sp_need_start K) := by
  obtain ⟨fd, F⟩ := F_need_start T
  refine ⟨⟨_, fd, ["session", "numbers"], F.ok sc_need_start (fun vs H Q E h => ?_) (fun cdv A outer s H vs Q E hr h => ⟨_, pss_cons (ps_expr (pe_cx (ok_need_k T) hr (by decide) rfl (takes_of rfl rfl rfl rfl) (pa_cons (pe_ix ix_list (pv 1) (pe_int) (fun _ _ => rfl)) pa_nil))) (pss_cons (ps_expr (pe_cx (ok_need_minute T) hr (by decide) rfl (takes_of rfl rfl rfl rfl) (pa_cons (pe_ix ix_list (pv 1) (pe_int) (fun _ _ => rfl)) pa_nil))) (pss_one (ps_expr (pe_cx (ok_need_places T) hr (by decide) rfl (takes_of rfl rfl rfl rfl) (pa_cons (pe_fld (pv 0) rfl) (pa_cons (pe_slice sl_list (pv 1) (po_some (pe_int)) (po_none)) pa_nil)))))), ?_⟩), g_need_start T, F.kp, F.bindsN (fun _ _ _ _ _ _ us hl => match us, hl with | [_, _], _ => rfl)⟩⟩
  · obtain ⟨S, sa, na, la, n, k, t, ps, rfl, _⟩ := h
    rfl
  · obtain ⟨S, sa, na, la, n, k, t, ps, rfl, hH, hL, hps, h1, h2, h3⟩ := h
    obtain ⟨ds, es⟩ := hH.se
    refine ⟨_, rfl, la, _, 0, _, rfl, rfl, hL, atI_nat (j := 0) rfl, k, rfl, fun z => h1 (.inl z) H (Same.refl H), fun o1 => ?_⟩
    refine ⟨_, rfl, la, _, 1, _, rfl, rfl, hL, atI_nat (j := 1) rfl, t, rfl, fun z => h1 (.inr (.inl z)) H (Same.refl H), fun o2 => ?_⟩
    refine ⟨_, rfl, sa, _, ds, _, _, rfl, es, c_Session T, n_Session_net T, rfl, _, rfl, ?_⟩
    refine ⟨2, rfl, la, _, rfl, hL, fun pl hpl => ?_⟩
    have ec : cutV ((k :: t :: ps).map V.int) (some ((2 : Nat) : Int)) none = ps.map V.int := cut_from (j := 2) (by simp)
    have s1 : Same H (upd H pl (.lst (ps.map V.int))) := same_new hpl
    refine ⟨S, na, pl, n, ps, rfl, ?_, ?_, ?_, ?_, ?_⟩
    · exact hH.net.same (same_new hpl)
    · refine SqL.of ?_
      rw [upd_same]
      exact congrArg (fun z => some (HO.lst z)) ec
    · exact fun z => h1 (.inr (.inr z)) _ (same_new hpl)
    · exact fun z y => h2 o1 o2 z y _ (same_new hpl)
    · exact fun z y => h3 o1 o2 z y _ (same_new hpl)
def sureAll (n : Vbtoad.Net) (k t p m : Nat) : List Nat := (List.range m).map fun d => sureM n d (worthsM n d k) p t
theorem sureAll_succ (n : Vbtoad.Net) (k t p m : Nat) : sureAll n k t p (m + 1) = sureAll n k t p m ++ [sureM n m (worthsM n m k) p t] := by
  unfold sureAll
  rw [List.range_succ, List.map_append]
  rfl
theorem sureAll_len (n : Vbtoad.Net) (k t p m : Nat) : (sureAll n k t p m).length = m := by
  unfold sureAll
  rw [List.length_map, List.length_range]
def sp_sure_to_each (K : PySem.W.Frag) : Sp := fun vs H Q _ => ∃ (S : List Addr) (sa na : Addr) (n : Vbtoad.Net) (k t p : Nat), vs = [.ref sa, .int (k : Nat), .int (t : Nat), .int (p : Nat)] ∧ Hand K S H sa na n ∧ k ≤ 3 ∧ p < n.places.length ∧ ∀ l H1, Kp [] H H1 → Tabs (tabT K) H1 → Fresh H l → TextAt H1 l (sureAll n k t p n.places.length) → Q (.ref l) H1
theorem sc_sure_to_each : FnScope ["session", "k", "minute", "place", "ways", "minutes", "goal", "outlook"] ["session", "k", "minute", "place"] d_sure_to_each.scope := ⟨rfl, rfl, rfl, by decide +kernel, rfl, by decide +kernel, by decide +kernel⟩
theorem ok_sure_to_each (T : Fx K mg base) : Fn0 P w K mg base 8 "sure_to_each" (sp_sure_to_each K) := by
  obtain ⟨fd, F⟩ := F_sure_to_each T
  refine ⟨⟨_, fd, ["session", "k", "minute", "place"], F.ok sc_sure_to_each (fun vs H Q E h => ?_) (fun cdv A outer s H vs Q E hr h => ⟨_, PSs.nox (pss_cons (ps_set (i := 4) sc_sure_to_each.nd rfl (Or.inl rfl) (pe_k0 (ok_Ways_init T) hr (by decide) rfl (pa_cons (pe_fld (pv 0) rfl) pa_nil))) (pss_cons (ps_set (i := 5) sc_sure_to_each.nd rfl (Or.inl rfl) (pe_lst (pa_nil))) (pss_cons (ps_for PassesOwn.never rfl (pi_range1 (by rfl) (b_range T) (pa_cons (pe_callB call_len_seq (by rfl) (b_len T) (by decide +kernel) (pa_cons (pe_fld (pe_fld (pv 0) rfl) rfl) pa_nil)) pa_nil)) (pg_name (i := 6) sc_sure_to_each.nd rfl (Or.inl rfl)) (pss_cons (ps_set (i := 7) sc_sure_to_each.nd rfl (Or.inl rfl) (pe_k0 (ok_Outlook_init T) hr (by decide) rfl (pa_cons (pe_fld (pv 0) rfl) (pa_cons (pv 4) (pa_cons (pv 6) (pa_cons (pv 1) pa_nil)))))) (pss_one (ps_expr (pe_bm PySem.F.plainAttrs_list PySem.F.slot_list_append PySem.F.type_list_append mt_append (pv 5) (pa_cons (pe_c0 (ok_sure_from T) hr (by decide) rfl (pa_cons (pv 7) (pa_cons (pv 1) (pa_cons (pv 2) (pa_cons (pv 3) pa_nil))))) pa_nil)))))) (pss_one (ps_ret (pv 5)))))), ?_⟩), g_sure_to_each T, F.kp, F.bindsN (fun _ _ _ _ _ _ us hl => match us, hl with | [_, _, _, _], _ => rfl)⟩⟩
  · obtain ⟨S, sa, na, n, k, t, p, rfl, _⟩ := h
    rfl
  · obtain ⟨S, sa, na, n, k, t, p, rfl, hH, hk, hp, q⟩ := h
    obtain ⟨ds, es⟩ := hH.se
    refine ⟨_, rfl, sa, _, ds, _, _, rfl, es, c_Session T, n_Session_net T, rfl, fun x dx hx hdx nd => ?_⟩
    refine ⟨[x] ++ S, x, dx, na, n, rfl, upd_same, by simp, net_made hH.net hx hdx nd, hH.wf, fun H1 ca ra e1 t1 t2 k' => ⟨rfl, ?_⟩⟩
    obtain ⟨s1, w1⟩ := ways_done hH.own hx hdx nd e1 t1 t2 k'
    refine ⟨Nat.zero_le _, fun ml hml => ?_⟩
    have s2 : Same H1 (upd H1 ml (.lst [])) := same_new hml
    have h2 := (hH.same s1).same s2
    have w2 : WaysAt K S (upd H1 ml (.lst [])) x n := w1.kp (Kp.same s2)
    have hmH : H ml = none := s1.free hml
    have e2 : (upd H1 ml (.lst [])) ml = some (.lst (nv (sureAll n k t p 0))) := upd_same
    have ss := s1.trans s2
    let G2 : Hp := upd H1 ml (.lst [])
    have ncl : ml ∉ S := hH.own.used.new hmH
    obtain ⟨d2, es2⟩ := h2.se
    obtain ⟨lp, lc, ld, ⟨⟨⟨dn, en⟩, ea⟩, ⟨ps, ep, rp⟩, _⟩, _⟩ := id h2.net
    have m8 := hH.wf.np
    refine ⟨_, rfl, sa, _, d2, _, _, rfl, es2, c_Session T, n_Session_net T, rfl, na, _, dn, _, _, rfl, en, c_Net T, n_Net_places T, rfl, lp, ps, rfl, .inl (SqL.of ep), (ps.length : Int), rfl, by omega, by rw [rp.len]; omega, ?_⟩
    rw [rp.len, Int.toNat_natCast]
    refine for_it (walk_range (lo := 0) (n := n.places.length)) (fun i σ G => ∃ v6 v7, σ = [some (.ref sa), some (.int (k : Nat)), some (.int (t : Nat)), some (.int (p : Nat)), some (.ref x), some (.ref ml), v6, v7] ∧ Kp [ml] G2 G ∧ Tabs (tabT K) G ∧ G ml = some (.lst (nv (sureAll n k t p i)))) ⟨none, none, rfl, Kp.refl _ _, h2.tb, e2⟩ (fun _ _ _ _ _ => trivial) ?_ ?_
    · rintro i v σ G G' hi ⟨v6, v7, rfl, kG, tG, eG⟩ ⟨rfl, rfl⟩
      show gName 6 (V.int (0 + (i : Int))) _ _ _
      rw [Int.zero_add]
      have kS : Kp ([ml] ++ S) G2 G' := kG.mono (by simp)
      have ls : ∀ c, c ∉ [ml] ++ S → c ∉ S := fun c h m => h (List.mem_append_right _ m)
      have fr : ∀ c ∈ [ml], Fresh H1 c := fun c m => by
        rw [List.mem_singleton.mp m]
        exact Fresh.none hml
      have net3 : NetAt K S G' na n := ((((hH.same s1).net.fresh fr).kp (Kp.same s2)).kp kS).less ls
      have way3 : WaysAt K S G' x n := (((w1.fresh fr).kp (Kp.same s2)).kp kS).less ls
      have own3 : Owned S G' := fun c m => by
        have cm : c ∉ [ml] := fun z => ncl (by rw [← List.mem_singleton.mp z]; exact m)
        rcases h2.own c m with ⟨xs, e⟩ | ⟨C, dx, fs, e⟩
        · exact .inl ⟨xs, kG.lst e cm⟩
        · exact .inr ⟨C, dx, fs, kG.ins e cm⟩
      have sm : sa ∉ [ml] := by
        rw [List.mem_singleton]
        exact ne_of_none es hmH
      have es3 := kG.ins es2 sm
      refine ⟨_, rfl, sa, _, d2, _, _, rfl, es3, c_Session T, n_Session_net T, rfl, _, rfl, _, rfl, _, rfl, fun o dd ho hdo ndo => ?_⟩
      refine ⟨[o] ++ S, o, dd, na, x, n, i, k, rfl, upd_same, by simp, net_made net3 ho hdo ndo, ways_kept way3 ho hdo ndo, hH.wf, hi, hk, tG.ext (same_two ho hdo ndo), fun H3 wl xs k1 t1 e1 e2 f1 r1 rn => ⟨rfl, ?_⟩⟩
      obtain ⟨k3, o3⟩ := out_done net3 way3 hH.wf hi own3 ho hdo ndo k1 e1 e2 f1 r1 rn
      have eml3 : H3 ml = some (.lst (nv (sureAll n k t p i))) := k3.lst eG (by simp)
      refine ⟨_, rfl, .inl ⟨rfl, _, SqL.of eml3⟩, _, rfl, _, rfl, _, rfl, _, rfl, S, o, n, i, rowsTo n i (k + 1), k, t, p, worthsM n i k, rfl, o3.at_, rowsTo_get (by omega), hp, fun H4 s4 => ?_⟩
      refine ⟨ml, _, _, rfl, rfl, s4 _ _ eml3, ?_, ?_⟩
      · rw [nv_len, sureAll_len]
        exact small1000 (by omega)
      · refine ⟨_, _, rfl, kG.trans ((k3.mono (by simp)).trans ((Kp.same s4).trans (Kp.upd (by simp)))), tabs_kt (t1.ext s4) (Kt.upd_lst (s4 _ _ eml3)), ?_⟩
        rw [upd_same, sureAll_succ, nv_append]
        rfl
    · rintro σ G ⟨v6, v7, rfl, kG, tG, eG⟩
      refine ⟨_, rfl, q ml G (fun b o _ eb tb => kG b o ?_ (ss _ _ eb) tb) tG (Fresh.none hmH) eG⟩
      rw [List.mem_singleton]
      exact ne_of_none eb hmH
/-- -1 for never -/
def toldM (m : Nat) : Int := if m = NEVER then -1 else (m : Int)
def sp_told_minutes (K : PySem.W.Frag) : Sp := fun vs H Q _ => ∃ (a : Addr) (ms : List Nat), vs = [.ref a] ∧ SqL K H a (nv ms) ∧ ms.length ≤ 900 ∧ ∀ l H1, Same H H1 → H l = none → IntsAt H1 l (ms.map toldM) → Q (.ref l) H1
theorem sc_told_minutes : FnScope ["minutes", "minute"] ["minutes"] d_told_minutes.scope := ⟨rfl, rfl, rfl, by decide +kernel, rfl, by decide +kernel, by decide +kernel⟩
theorem ok_told_minutes (T : Fx K mg base) : Fn0 P w K mg base 1 "told_minutes" (sp_told_minutes K) := by
  obtain ⟨fd, F⟩ := F_told_minutes T
  refine ⟨⟨_, fd, ["minutes"], F.ok sc_told_minutes (fun vs H Q E h => ?_) (fun cdv A outer s H vs Q E hr h => ⟨_, PSs.nox (pss_one (ps_ret (pe_lc (own := [("minute", 1)]) (by rfl) sc_told_minutes.nd (pi_list (pv 0)) (blkOk_by (own := [("minute", 1)]) (N := ["minutes", "minute"]) (sc := d_told_minutes.scope) (by decide +kernel)) (fun _ _ _ _ _ => pg_name (i := 1) sc_told_minutes.nd rfl (Or.inl rfl)) (fun _ _ _ _ _ => pts_nil) (fun _ _ _ _ _ => pe_ifExp (pt_cmpR op_eq (pv 1) (C8.pe_gc rfl (i_NEVER T)) (nomark _)) (pe_un un_neg (pe_int)) (pv 1))))), ?_⟩), g_told_minutes T, F.kp, F.bindsN (fun _ _ _ _ _ _ us hl => match us, hl with | [_], _ => rfl)⟩⟩
  · obtain ⟨a, ms, rfl, _⟩ := h
    rfl
  · obtain ⟨a, ms, rfl, hA, hl, q⟩ := h
    refine ⟨_, rfl, a, rfl, ⟨_, hA⟩, fun Dl hD => lc_it (walk_list (xs := nv ms)) (fun i H1 => Same H H1 ∧ IntsAt H1 Dl ((ms.take i).map toldM)) ⟨same_new hD, upd_same⟩ (fun i H1 _ h => h.1.seq hA) ?_ ?_⟩
    · rintro i v H1 H2 hi ⟨s1, d1⟩ ⟨rfl, hv⟩
      obtain ⟨m, hm, rfl⟩ := nv_get hv
      have fin : ∀ z : Int, z = toldM m → ((((ms.take i).map toldM).map V.int).length < sizeLine ∧ Same H (upd H2 Dl (.lst ((((ms.take i).map toldM).map V.int) ++ [.int z]))) ∧ IntsAt (upd H2 Dl (.lst ((((ms.take i).map toldM).map V.int) ++ [.int z]))) Dl ((ms.take (i + 1)).map toldM)) := fun z hz => by
        refine ⟨?_, same_upd hD s1, ?_⟩
        · rw [List.length_map, List.length_map, List.length_take]
          exact small1000 (by omega)
        · unfold IntsAt
          rw [upd_same, List.take_add_one, hm, List.map_append, List.map_append, hz]
          rfl
      refine ⟨rfl, lcYes ⟨_, rfl, rfl, _, rfl, ?_⟩⟩
      by_cases c : V.int ((m : Nat) : Int) = V.int 1000000000
      · refine ifT (decide_eq_true c) ⟨_, rfl, _, d1, fin (-1) ?_⟩
        unfold toldM
        rw [if_pos]
        have := V.int.inj c
        unfold NEVER
        omega
      · refine ifF (decide_eq_false c) ⟨_, rfl, _, d1, fin (m : Int) ?_⟩
        unfold toldM
        rw [if_neg]
        exact fun z => c (by rw [z]; rfl)
    · rintro H1 ⟨s1, d1⟩
      rw [nv_len, List.take_length] at d1
      exact q Dl H1 s1 hD d1
end
end SJ
end
section
set_option Elab.async false
set_option linter.all false
set_option maxRecDepth 100000
set_option maxHeartbeats 4000000
/-! What a call's def promises. -/
namespace SJ
open PySem PySem.Spec PyProof.Rows L2 LamX
/-- a call as an object -/
def CallAt (K : PySem.W.Frag) (S : List Addr) (H : Hp) (ca : Addr) (kind : Int) (nums : List Int) (rows : List (List Int)) (bh : Int) : Prop := ∃ dx na ra xs, H ca = some (.ins (He.ga K "Call") dx [("kind", .int kind), ("numbers", .ref na), ("rows", .ref ra), ("behind", .int bh)]) ∧ IntsAt H na nums ∧ H ra = some (.lst xs) ∧ Each (fun b t => IntsAt H b t ∧ b ∉ S) xs rows
theorem upd_none {H : Hp} {a p : Addr} {o : HO} (h : (upd H a o) p = none) : H p = none := by
  by_cases c : p = a
  · rw [c, upd_same] at h
    cases h
  · rw [upd_ne c] at h
    exact h
/-- the ways out of a call: what is due is r -/
structure Outs (K : PySem.W.Frag) (S : List Addr) (sa : Addr) (H : Hp) (Q : VK) (E : XK) (n : Vbtoad.Net) (r : Vbtoad.Net × List Int) : Prop where
  ret : ∀ p na H1, p ∉ S → Kp [sa] H H1 → Tabs (tabT K) H1 → SessAt K H1 sa na → NetAt K S H1 na r.1 → IntsAt H1 p r.2 → Q (.ref p) H1
  no1 : r = (n, [-1]) → ∀ H1, Kp [] H H1 → Tabs (tabT K) H1 → E (cNot K) none H1
  no4 : r = (n, [-4]) → ∀ H1, Kp [] H H1 → Tabs (tabT K) H1 → E (cPl K) none H1
  no5 : r = (n, [-5]) → ∀ H1, Kp [] H H1 → Tabs (tabT K) H1 → E (cNoName K) none H1
  no7 : r = (n, [-7]) → ∀ H1, Kp [] H H1 → Tabs (tabT K) H1 → E (cNS K) none H1
  no8 : r = (n, [-8]) → ∀ H1, Kp [] H H1 → Tabs (tabT K) H1 → E (cTimes K) none H1
  flt : ∀ e, r = (n, Vbtoad.faultRow e) → ∀ H1 d, Kp [] H H1 → Tabs (tabT K) H1 → H1 d = some (.xd (faultF (.int e.kind) (.int e.at_))) → E (.ref (He.ga K "TextFault")) (some d) H1
abbrev Dec := List Int → List (List Int) → Option Vbtoad.Call
def HSp (K : PySem.W.Frag) (dec : Dec) : Sp := fun vs H Q E => ∃ (S : List Addr) (sa ca na : Addr) (n : Vbtoad.Net) (kind : Int) (nums : List Int) (rows : List (List Int)) (bh : Int) (c : Vbtoad.Call), vs = [.ref sa, .ref ca] ∧ Hand K S H sa na n ∧ sa ∈ S ∧ CallAt K S H ca kind nums rows bh ∧ dec nums rows = some c ∧ Outs K S sa H Q E n (Vbtoad.step n c)
def d01 (f : List Int → Vbtoad.Call) : Dec := fun a b => match a, b with
  | [], [t] => some (f t)
  | _, _ => none
def d00 (c : Vbtoad.Call) : Dec := fun a b => match a, b with
  | [], [] => some c
  | _, _ => none
def d11 (f : Int → List Int → Vbtoad.Call) : Dec := fun a b => match a, b with
  | [m], [t] => some (f m t)
  | _, _ => none
def d20 (f : Int → Int → Vbtoad.Call) : Dec := fun a b => match a, b with
  | [x, y], [] => some (f x y)
  | _, _ => none
def d30 (f : Int → Int → Int → Vbtoad.Call) : Dec := fun a b => match a, b with
  | [x, y, z], [] => some (f x y z)
  | _, _ => none
def d40 (f : Int → Int → Int → Int → Vbtoad.Call) : Dec := fun a b => match a, b with
  | [x, y, z, u], [] => some (f x y z u)
  | _, _ => none
def d41 (f : Int → Int → Int → Int → List Int → Vbtoad.Call) : Dec := fun a b => match a, b with
  | [x, y, z, u], [t] => some (f x y z u t)
  | _, _ => none
section
variable {a : List Int} {b : List (List Int)} {c : Vbtoad.Call}
theorem d01_is {f : List Int → Vbtoad.Call} (h : d01 f a b = some c) : ∃ t, a = [] ∧ b = [t] ∧ c = f t := by
  unfold d01 at h
  split at h
  · cases h
    exact ⟨_, rfl, rfl, rfl⟩
  · cases h
theorem d00_is {f : Vbtoad.Call} (h : d00 f a b = some c) : a = [] ∧ b = [] ∧ c = f := by
  unfold d00 at h
  split at h
  · cases h
    exact ⟨rfl, rfl, rfl⟩
  · cases h
theorem d11_is {f : Int → List Int → Vbtoad.Call} (h : d11 f a b = some c) : ∃ m t, a = [m] ∧ b = [t] ∧ c = f m t := by
  unfold d11 at h
  split at h
  · cases h
    exact ⟨_, _, rfl, rfl, rfl⟩
  · cases h
theorem d20_is {f : Int → Int → Vbtoad.Call} (h : d20 f a b = some c) : ∃ x y, a = [x, y] ∧ b = [] ∧ c = f x y := by
  unfold d20 at h
  split at h
  · cases h
    exact ⟨_, _, rfl, rfl, rfl⟩
  · cases h
theorem d30_is {f : Int → Int → Int → Vbtoad.Call} (h : d30 f a b = some c) : ∃ x y z, a = [x, y, z] ∧ b = [] ∧ c = f x y z := by
  unfold d30 at h
  split at h
  · cases h
    exact ⟨_, _, _, rfl, rfl, rfl⟩
  · cases h
theorem d40_is {f : Int → Int → Int → Int → Vbtoad.Call} (h : d40 f a b = some c) : ∃ x y z u, a = [x, y, z, u] ∧ b = [] ∧ c = f x y z u := by
  unfold d40 at h
  split at h
  · cases h
    exact ⟨_, _, _, _, rfl, rfl, rfl⟩
  · cases h
theorem d41_is {f : Int → Int → Int → Int → List Int → Vbtoad.Call} (h : d41 f a b = some c) : ∃ x y z u t, a = [x, y, z, u] ∧ b = [t] ∧ c = f x y z u t := by
  unfold d41 at h
  split at h
  · cases h
    exact ⟨_, _, _, _, _, rfl, rfl, rfl⟩
  · cases h
end
/-! ## what is due, in the program's order of looks -/
theorem bytesOk_iff {t : List Int} {m : Nat} : Vbtoad.bytesOk t m = true ↔ RowOk t (m : Int) 255 := by
  unfold Vbtoad.bytesOk RowOk
  rw [Bool.and_eq_true, decide_eq_true_eq, List.all_eq_true]
  constructor
  · rintro ⟨h1, h2⟩
    refine ⟨by omega, fun x hx => ?_⟩
    have := h2 x hx
    unfold Vbtoad.within at this
    rw [Bool.and_eq_true, decide_eq_true_eq, decide_eq_true_eq] at this
    exact this
  · rintro ⟨h1, h2⟩
    refine ⟨by omega, fun x hx => ?_⟩
    unfold Vbtoad.within
    rw [Bool.and_eq_true, decide_eq_true_eq, decide_eq_true_eq]
    exact h2 x hx
theorem within_iff {x lo hi : Int} : Vbtoad.within x lo hi = true ↔ ¬ Out x lo hi := by
  unfold Vbtoad.within Out
  rw [Bool.and_eq_true, decide_eq_true_eq, decide_eq_true_eq]
  omega
theorem isK_iff {x : Int} : Vbtoad.isK x = true ↔ ¬ Out x 0 3 := within_iff
theorem isTime_iff {x : Int} : Vbtoad.isTime x = true ↔ ¬ Out x 0 100000 := within_iff
theorem isPlace_iff {x : Int} : Vbtoad.isPlace x = true ↔ 0 ≤ x ∧ x ≤ 7 := by
  show Vbtoad.within x 0 7 = true ↔ _
  rw [within_iff]
  unfold Out
  omega
theorem nv_bytes {t : List Int} {m h : Int} (r : RowOk t m h) : nv (Vbtoad.bytes t) = t.map V.int := by
  unfold nv Vbtoad.bytes
  rw [List.map_map]
  apply List.map_congr_left
  intro x hx
  have := r.2 x hx
  show V.int ((x.toNat : Nat) : Int) = V.int x
  congr 1
  omega
theorem ints_nv (t : List Nat) : (Vbtoad.ints t).map V.int = nv t := by
  unfold nv Vbtoad.ints
  rw [List.map_map]
  rfl
theorem text_ints {H : Hp} {p : Addr} {t : List Nat} (h : TextAt H p t) : IntsAt H p (Vbtoad.ints t) := by
  unfold IntsAt
  rw [ints_nv]
  exact h
theorem step_no {n : Vbtoad.Net} {c : Vbtoad.Call} (h : Vbtoad.ranged c ≠ true) : Vbtoad.step n c = (n, [-1]) := by
  unfold Vbtoad.step
  rw [if_pos (Bool.eq_false_iff.mpr h)]
theorem step_yes {n : Vbtoad.Net} {c : Vbtoad.Call} (h : Vbtoad.ranged c = true) : Vbtoad.step n c = Vbtoad.act n c := by
  unfold Vbtoad.step
  rw [if_neg (by rw [h]; exact Bool.noConfusion)]
theorem onPlaces_no {n : Vbtoad.Net} {l : List Int} {f : List Nat → List Int} (h : ¬ PlacesIn n l) : Vbtoad.onPlaces n l f = [-4] := by
  unfold Vbtoad.onPlaces
  rw [if_pos]
  rw [List.any_eq_true]
  apply Classical.byContradiction
  intro z
  refine h fun x hx => ?_
  apply Classical.byContradiction
  intro y
  exact z ⟨x, hx, decide_eq_true (by omega)⟩
theorem onPlaces_yes {n : Vbtoad.Net} {l : List Int} {f : List Nat → List Int} (h : PlacesIn n l) : Vbtoad.onPlaces n l f = f (l.map Int.toNat) := by
  unfold Vbtoad.onPlaces
  rw [if_neg]
  rw [List.any_eq_true]
  rintro ⟨x, hx, z⟩
  have := h x hx
  have := of_decide_eq_true z
  omega
section
variable {K : PySem.W.Frag} {S : List Addr} {H H1 : Hp}
theorem CallAt.kp {ca : Addr} {kind : Int} {nums : List Int} {rows : List (List Int)} {bh : Int} (h : CallAt K S H ca kind nums rows bh) (k : Kp [] H H1) : CallAt K S H1 ca kind nums rows bh := let ⟨dx, na, ra, xs, e1, e2, e3, e4⟩ := h; ⟨dx, na, ra, xs, k.ins e1 (by simp), k.lst e2 (by simp), k.lst e3 (by simp), e4.mono fun _ _ z => ⟨k.lst z.1 (by simp), z.2⟩⟩
/-- the one row of a call -/
theorem CallAt.row {ca : Addr} {kind : Int} {nums t : List Int} {bh : Int} (h : CallAt K S H ca kind nums [t] bh) : ∃ dx na ra xs tb, H ca = some (.ins (He.ga K "Call") dx [("kind", .int kind), ("numbers", .ref na), ("rows", .ref ra), ("behind", .int bh)]) ∧ IntsAt H na nums ∧ H ra = some (.lst xs) ∧ atI xs 0 = some (.ref tb) ∧ IntsAt H tb t ∧ tb ∉ S := by
  obtain ⟨dx, na, ra, xs, e1, e2, e3, e4⟩ := h
  obtain ⟨tb, eb, et⟩ := e4.at_ 0 t rfl
  exact ⟨dx, na, ra, xs, tb, e1, e2, e3, atI_nat (j := 0) eb, et⟩
theorem empty_made {x dx lp lc ld : Addr} (hS : Owned S H) (hx : H x = none) (hd : H dx = none) (nd : dx ≠ x) (n1 : (upd (upd H dx (.own x)) x (.ins (He.ga K "Net") dx [])) lp = none) (n2 : (upd (upd H dx (.own x)) x (.ins (He.ga K "Net") dx [])) lc = none) (n3 : (upd (upd H dx (.own x)) x (.ins (He.ga K "Net") dx [])) ld = none)
    (e1 : H1 x = some (.ins (He.ga K "Net") dx [("places", .ref lp), ("cars", .ref lc), ("departures", .ref ld)])) (e2 : H1 lp = some (.lst [])) (e3 : H1 lc = some (.lst [])) (e4 : H1 ld = some (.lst []))
    (k : ∀ b o, b ≠ x → (upd (upd H dx (.own x)) x (.ins (He.ga K "Net") dx [])) b = some o → H1 b = some o) : Same H H1 ∧ NetAt K S H1 x Vbtoad.empty := by
  have s0 : Same H (upd (upd H dx (.own x)) x (.ins (He.ga K "Net") dx [])) := same_two hx hd nd
  have u0 := (hS.same s0).used
  exact ⟨fun b o eb => k b o (ne_of_none eb hx) (s0 _ _ eb), lp, lc, ld, ⟨⟨⟨dx, e1⟩, hS.used.new hx⟩, ⟨[], e2, Each.nil⟩, ⟨[], e3, Each.nil⟩, ⟨[], e4, Each.nil⟩⟩, u0.new n1, u0.new n2, u0.new n3⟩
end
section
variable {P : Program} {w : World} {K : PySem.W.Frag} {mg : Str → Option Value} {base : Heap}
theorem sc_call_net : FnScope ["session", "call", "text"] ["session", "call"] d_call_net.scope := ⟨rfl, rfl, rfl, by decide +kernel, rfl, by decide +kernel, by decide +kernel⟩
theorem ok_call_net (T : Fx K mg base) : FnX P w K mg base 9 "call_net" (HSp K (d01 .net)) := by
  obtain ⟨fd, F⟩ := F_call_net T
  refine ⟨⟨_, fd, ["session", "call"], F.ok sc_call_net (fun vs H Q E h => ?_) (fun cdv A outer s H vs Q E hr h => ⟨_, pss_cons (ps_set (i := 2) sc_call_net.nd rfl (Or.inl rfl) (pe_ix ix_list (pe_fld (pv 1) rfl) (pe_int) (fun _ _ => rfl))) (pss_cons (ps_expr (pe_cx (ok_need_text T) hr (by decide) rfl (takes_of rfl rfl rfl rfl) (pa_cons (pv 2) pa_nil))) (pss_cons (ps_fld (pv 0) (pe_cx (ok_read_behind T) hr (by decide) rfl (takes_of rfl rfl rfl rfl) (pa_cons (pe_k00 (ok_Net_init T) hr (by decide) rfl) (pa_cons (pv 2) pa_nil))) rfl) (pss_one (ps_ret (pe_c0 (ok_sizes_of T) hr (by decide) rfl (pa_cons (pe_fld (pv 0) rfl) pa_nil)))))), ?_⟩), g_call_net T, F.kp, F.bindsN (fun _ _ _ _ _ _ us hl => match us, hl with | [_, _], _ => rfl)⟩⟩
  · obtain ⟨S, sa, ca, na, n, kind, nums, rows, bh, c, rfl, _⟩ := h
    rfl
  · obtain ⟨S, sa, ca, na, n, kind, nums, rows, bh, c, rfl, hH, hsa, hC, hd, O⟩ := h
    obtain ⟨t, rfl, rfl, rfl⟩ := d01_is hd
    obtain ⟨dc, nl, ra, xs, tb, e1, e2, e3, e4, e5, e6⟩ := hC.row
    refine ⟨_, rfl, ca, _, dc, _, _, rfl, e1, c_Call T, n_Call_rows T, rfl, ra, xs, 0, .ref tb, rfl, rfl, SqL.of e3, e4, ?_⟩
    refine ⟨_, rfl, tb, t, rfl, SqL.of e5, fun z => O.no1 (step_no fun y => z (bytesOk_iff.mp y)) H (Kp.refl _ _) hH.tb, fun ok => ?_⟩
    have es : Vbtoad.step n (.net t) = Vbtoad.act n (.net t) := step_yes (bytesOk_iff.mpr ok)
    intro x dx hx hdx nd
    refine ⟨x, dx, rfl, upd_same, fun H1 lp lc ld n1 n2 n3 _ _ _ f1 f2 f3 f4 k => ⟨rfl, ?_⟩⟩
    obtain ⟨s1, N1⟩ := empty_made (S := S) hH.own hx hdx nd n1 n2 n3 f1 f2 f3 f4 k
    have h1 := hH.same s1
    refine ⟨_, rfl, S, x, tb, Vbtoad.empty, Vbtoad.bytes t, rfl, h1.own.used, N1, WF.empty, SqL.of (by rw [nv_bytes ok]; exact s1 _ _ e5), ?_, ?_⟩
    · have := ok.1
      unfold Vbtoad.bytes
      rw [List.length_map]
      omega
    · cases er : Vbtoad.readNet Vbtoad.empty (Vbtoad.bytes t) with
      | error e =>
        intro H2 d k2 e2
        refine O.flt e ?_ H2 d ((Kp.same s1).trans (Kp.keeps k2)) (h1.tb.ext (Keeps.same k2)) e2
        rw [es]
        show (match Vbtoad.readNet Vbtoad.empty (Vbtoad.bytes t) with | .error e => _ | .ok m => _) = _
        rw [er]
      | ok m =>
        intro b H2 s2 N2
        have h2 := h1.same s2
        obtain ⟨ds, es2⟩ := h2.se
        refine ⟨_, rfl, sa, _, ds, _, rfl, es2, c_Session T, n_Session_net T, (by show 1 < 1000; decide), ?_⟩
        have k3 : Kp [sa] H2 (upd H2 sa (.ins (He.ga K "Session") ds [("net", .ref b)])) := Kp.upd (by simp)
        have t3 : Tabs (tabT K) (upd H2 sa (.ins (He.ga K "Session") ds [("net", .ref b)])) := tabs_kt h2.tb (Kt.upd_ins es2)
        refine ⟨_, rfl, sa, _, ds, _, _, rfl, upd_same, c_Session T, n_Session_net T, rfl, S, b, m, rfl, N2.kp (k3.mono fun b m => by rw [List.mem_singleton.mp m]; exact hsa), fun p H4 s4 n4 t4 => ?_⟩
        have ea : Vbtoad.step n (.net t) = (m, 0 :: Vbtoad.ints [m.places.length, m.cars.length, m.goes.length]) := by
          rw [es]
          show (match Vbtoad.readNet Vbtoad.empty (Vbtoad.bytes t) with | .error e => _ | .ok m => _) = _
          rw [er]
        have O2 := O.ret
        rw [ea] at O2
        exact O2 p b H4 (h2.own.used.new (upd_none n4)) ((((Kp.same s1).trans (Kp.same s2)).trans k3).trans (Kp.same s4)) (t3.ext s4) ⟨ds, s4 _ _ upd_same⟩ ((N2.kp (k3.mono fun b m => by rw [List.mem_singleton.mp m]; exact hsa)).same s4) (text_ints t4)
end
end SJ
end
section
set_option Elab.async false
set_option linter.all false
set_option maxRecDepth 100000
set_option maxHeartbeats 4000000
/-! The calls that change or tell the net. -/
namespace SJ
open PySem PySem.Spec PyProof.Rows L2 LamX
section
variable {P : Program} {w : World} {K : PySem.W.Frag} {mg : Str → Option Value} {base : Heap}
/-- the net is as it was -/
theorem Outs.told {S : List Addr} {sa na : Addr} {H H1 : Hp} {Q : VK} {E : XK} {n : Vbtoad.Net} {r : Vbtoad.Net × List Int} {p : Addr} {l : List Int} (O : Outs K S sa H Q E n r) (hH : Hand K S H sa na n) (e : r = (n, l)) (k : Kp [] H H1) (t : Tabs (tabT K) H1) (f : Fresh H p) (i : IntsAt H1 p l) : Q (.ref p) H1 := by
  subst e
  have h1 := hH.ext k t
  exact O.ret p na H1 (hH.own.fresh f) (k.mono (by simp)) t h1.se h1.net i
/-- [0] + a list -/
theorem zero_cat {H : Hp} {p : Addr} {l : List Int} {xs : List V} (e : H p = some (.lst ([V.int 0] ++ xs))) (h : xs = l.map V.int) : IntsAt H p (0 :: l) := by
  unfold IntsAt
  rw [e, h]
  rfl
theorem sc_call_add : FnScope ["session", "call", "text"] ["session", "call"] d_call_add.scope := ⟨rfl, rfl, rfl, by decide +kernel, rfl, by decide +kernel, by decide +kernel⟩
theorem ok_call_add (T : Fx K mg base) : FnX P w K mg base 9 "call_add" (HSp K (d01 .add)) := by
  obtain ⟨fd, F⟩ := F_call_add T
  refine ⟨⟨_, fd, ["session", "call"], F.ok sc_call_add (fun vs H Q E h => ?_) (fun cdv A outer s H vs Q E hr h => ⟨_, pss_cons (ps_set (i := 2) sc_call_add.nd rfl (Or.inl rfl) (pe_ix ix_list (pe_fld (pv 1) rfl) (pe_int) (fun _ _ => rfl))) (pss_cons (ps_expr (pe_cx (ok_need_text T) hr (by decide) rfl (takes_of rfl rfl rfl rfl) (pa_cons (pv 2) pa_nil))) (pss_cons (ps_fld (pv 0) (pe_cx (ok_read_behind T) hr (by decide) rfl (takes_of rfl rfl rfl rfl) (pa_cons (pe_fld (pv 0) rfl) (pa_cons (pv 2) pa_nil))) rfl) (pss_one (ps_ret (pe_c0 (ok_sizes_of T) hr (by decide) rfl (pa_cons (pe_fld (pv 0) rfl) pa_nil)))))), ?_⟩), g_call_add T, F.kp, F.bindsN (fun _ _ _ _ _ _ us hl => match us, hl with | [_, _], _ => rfl)⟩⟩
  · obtain ⟨S, sa, ca, na, n, kind, nums, rows, bh, c, rfl, _⟩ := h
    rfl
  · obtain ⟨S, sa, ca, na, n, kind, nums, rows, bh, c, rfl, hH, hsa, hC, hd, O⟩ := h
    obtain ⟨t, rfl, rfl, rfl⟩ := d01_is hd
    obtain ⟨dc, nl, ra, xs, tb, e1, e2, e3, e4, e5, e6⟩ := hC.row
    obtain ⟨ds0, es0⟩ := hH.se
    refine ⟨_, rfl, ca, _, dc, _, _, rfl, e1, c_Call T, n_Call_rows T, rfl, ra, xs, 0, .ref tb, rfl, rfl, SqL.of e3, e4, ?_⟩
    refine ⟨_, rfl, tb, t, rfl, SqL.of e5, fun z => O.no1 (step_no fun y => z (bytesOk_iff.mp y)) H (Kp.refl _ _) hH.tb, fun ok => ?_⟩
    have es : Vbtoad.step n (.add t) = Vbtoad.act n (.add t) := step_yes (bytesOk_iff.mpr ok)
    refine ⟨_, rfl, sa, _, ds0, _, _, rfl, es0, c_Session T, n_Session_net T, rfl, _, rfl, S, na, tb, n, Vbtoad.bytes t, rfl, hH.own.used, hH.net, hH.wf, SqL.of (by rw [nv_bytes ok]; exact e5), ?_, ?_⟩
    · have := ok.1
      unfold Vbtoad.bytes
      rw [List.length_map]
      omega
    · cases er : Vbtoad.readNet n (Vbtoad.bytes t) with
      | error e =>
        intro H2 d k2 e2
        refine O.flt e ?_ H2 d (Kp.keeps k2) (hH.tb.ext (Keeps.same k2)) e2
        rw [es]
        show (match Vbtoad.readNet n (Vbtoad.bytes t) with | .error e => _ | .ok m => _) = _
        rw [er]
      | ok m =>
        intro b H2 s2 N2
        have h2 := hH.same s2
        obtain ⟨ds, es2⟩ := h2.se
        refine ⟨_, rfl, sa, _, ds, _, rfl, es2, c_Session T, n_Session_net T, (by show 1 < 1000; decide), ?_⟩
        have k3 : Kp [sa] H2 (upd H2 sa (.ins (He.ga K "Session") ds [("net", .ref b)])) := Kp.upd (by simp)
        have t3 : Tabs (tabT K) (upd H2 sa (.ins (He.ga K "Session") ds [("net", .ref b)])) := tabs_kt h2.tb (Kt.upd_ins es2)
        refine ⟨_, rfl, sa, _, ds, _, _, rfl, upd_same, c_Session T, n_Session_net T, rfl, S, b, m, rfl, N2.kp (k3.mono fun b m => by rw [List.mem_singleton.mp m]; exact hsa), fun p H4 s4 n4 t4 => ?_⟩
        have ea : Vbtoad.step n (.add t) = (m, 0 :: Vbtoad.ints [m.places.length, m.cars.length, m.goes.length]) := by
          rw [es]
          show (match Vbtoad.readNet n (Vbtoad.bytes t) with | .error e => _ | .ok m => _) = _
          rw [er]
        have O2 := O.ret
        rw [ea] at O2
        exact O2 p b H4 (h2.own.used.new (upd_none n4)) (((Kp.same s2).trans k3).trans (Kp.same s4)) (t3.ext s4) ⟨ds, s4 _ _ upd_same⟩ ((N2.kp (k3.mono fun b m => by rw [List.mem_singleton.mp m]; exact hsa)).same s4) (text_ints t4)
theorem sc_call_text : FnScope ["session", "call"] ["session", "call"] d_call_text.scope := ⟨rfl, rfl, rfl, by decide +kernel, rfl, by decide +kernel, by decide +kernel⟩
theorem ok_call_text (T : Fx K mg base) : FnX P w K mg base 5 "call_text" (HSp K (d00 .text)) := by
  obtain ⟨fd, F⟩ := F_call_text T
  refine ⟨⟨_, fd, ["session", "call"], F.ok sc_call_text (fun vs H Q E h => ?_) (fun cdv A outer s H vs Q E hr h => ⟨_, pss_one (ps_ret (pe_op op_cat (pe_lst (pa_cons (pe_int) pa_nil)) (pe_c0 (ok_written_net T) hr (by decide) rfl (pa_cons (pe_fld (pv 0) rfl) pa_nil)))), ?_⟩), g_call_text T, F.kp, F.bindsN (fun _ _ _ _ _ _ us hl => match us, hl with | [_, _], _ => rfl)⟩⟩
  · obtain ⟨S, sa, ca, na, n, kind, nums, rows, bh, c, rfl, _⟩ := h
    rfl
  · obtain ⟨S, sa, ca, na, n, kind, nums, rows, bh, c, rfl, hH, hsa, hC, hd, O⟩ := h
    obtain ⟨rfl, rfl, rfl⟩ := d00_is hd
    refine ⟨by show 1 ≤ sizeLine; rw [sizeLine_eq]; omega, fun z hz => ?_⟩
    have s1 : Same H (upd H z (.lst [.int 0])) := same_new hz
    have h1 := hH.same s1
    obtain ⟨ds, es⟩ := h1.se
    refine ⟨_, rfl, sa, _, ds, _, _, rfl, es, c_Session T, n_Session_net T, rfl, S, na, n, rfl, h1.net, h1.wf, fun p H2 s2 n2 t2 => ?_⟩
    refine ⟨z, p, [.int 0], nv (Vbtoad.written n), rfl, rfl, s2 _ _ upd_same, t2, ?_, fun q hq => ?_⟩
    · rw [nv_len, sizeLine_eq]
      have := written_len hH.wf
      show 1 + _ ≤ _
      omega
    · refine O.told hH (l := 0 :: Vbtoad.ints (Vbtoad.written n)) (step_yes rfl) (Kp.same ((s1.trans s2).trans (same_new hq))) (((hH.tb.ext s1).ext s2).ext (same_new hq)) (Fresh.back (Kp.same (s1.trans s2)) (Fresh.none hq)) (zero_cat upd_same (ints_nv _).symm)
theorem sc_call_without : FnScope ["session", "call", "name"] ["session", "call"] d_call_without.scope := ⟨rfl, rfl, rfl, by decide +kernel, rfl, by decide +kernel, by decide +kernel⟩
theorem ok_call_without (T : Fx K mg base) : FnX P w K mg base 5 "call_without" (HSp K (d01 .without)) := by
  obtain ⟨fd, F⟩ := F_call_without T
  refine ⟨⟨_, fd, ["session", "call"], F.ok sc_call_without (fun vs H Q E h => ?_) (fun cdv A outer s H vs Q E hr h => ⟨_, pss_cons (ps_set (i := 2) sc_call_without.nd rfl (Or.inl rfl) (pe_ix ix_list (pe_fld (pv 1) rfl) (pe_int) (fun _ _ => rfl))) (pss_cons (ps_expr (pe_cx (ok_need_name T) hr (by decide) rfl (takes_of rfl rfl rfl rfl) (pa_cons (pv 2) pa_nil))) (pss_cons (ps_fld (pv 0) (pe_cx (ok_net_without T) hr (by decide) rfl (takes_of rfl rfl rfl rfl) (pa_cons (pe_fld (pv 0) rfl) (pa_cons (pv 2) pa_nil))) rfl) (pss_one (ps_ret (pe_lst (pa_cons (pe_int) pa_nil)))))), ?_⟩), g_call_without T, F.kp, F.bindsN (fun _ _ _ _ _ _ us hl => match us, hl with | [_, _], _ => rfl)⟩⟩
  · obtain ⟨S, sa, ca, na, n, kind, nums, rows, bh, c, rfl, _⟩ := h
    rfl
  · obtain ⟨S, sa, ca, na, n, kind, nums, rows, bh, c, rfl, hH, hsa, hC, hd, O⟩ := h
    obtain ⟨t, rfl, rfl, rfl⟩ := d01_is hd
    obtain ⟨dc, nl, ra, xs, tb, e1, e2, e3, e4, e5, e6⟩ := hC.row
    obtain ⟨ds0, es0⟩ := hH.se
    refine ⟨_, rfl, ca, _, dc, _, _, rfl, e1, c_Call T, n_Call_rows T, rfl, ra, xs, 0, .ref tb, rfl, rfl, SqL.of e3, e4, ?_⟩
    refine ⟨_, rfl, tb, t, rfl, SqL.of e5, fun z => O.no1 (step_no fun y => z (bytesOk_iff.mp y)) H (Kp.refl _ _) hH.tb, fun ok => ?_⟩
    have es : Vbtoad.step n (.without t) = Vbtoad.act n (.without t) := step_yes (bytesOk_iff.mpr ok)
    have ng := hH.wf.ng
    refine ⟨_, rfl, sa, _, ds0, _, _, rfl, es0, c_Session T, n_Session_net T, rfl, _, rfl, S, na, tb, n, Vbtoad.bytes t, rfl, hH.own.used, hH.net, SqL.of (by rw [nv_bytes ok]; exact e5), by omega, fun eg H1 s1 => ?_, fun i eg b H2 s2 N2 => ?_⟩
    · refine O.no5 ?_ H1 (Kp.same s1) (hH.tb.ext s1)
      rw [es]
      show (match Vbtoad.goAt n (Vbtoad.bytes t) with | none => _ | some i => _) = _
      rw [eg]
    · have h2 := hH.same s2
      obtain ⟨ds, es2⟩ := h2.se
      refine ⟨_, rfl, sa, _, ds, _, rfl, es2, c_Session T, n_Session_net T, (by show 1 < 1000; decide), ?_⟩
      have k3 : Kp [sa] H2 (upd H2 sa (.ins (He.ga K "Session") ds [("net", .ref b)])) := Kp.upd (by simp)
      have t3 : Tabs (tabT K) (upd H2 sa (.ins (He.ga K "Session") ds [("net", .ref b)])) := tabs_kt h2.tb (Kt.upd_ins es2)
      refine ⟨by show 1 ≤ sizeLine; rw [sizeLine_eq]; omega, fun p hp => ?_⟩
      have ea : Vbtoad.step n (.without t) = ({ n with goes := n.goes.eraseIdx i }, [0]) := by
        rw [es]
        show (match Vbtoad.goAt n (Vbtoad.bytes t) with | none => _ | some i => _) = _
        rw [eg]
      have O2 := O.ret
      rw [ea] at O2
      have s4 := same_new (o := .lst [.int 0]) hp
      exact O2 p b _ (h2.own.used.new (upd_none hp)) (((Kp.same s2).trans k3).trans (Kp.same s4)) (t3.ext s4) ⟨ds, s4 _ _ upd_same⟩ ((N2.kp (k3.mono fun b m => by rw [List.mem_singleton.mp m]; exact hsa)).same s4) upd_same
theorem sc_call_shift : FnScope ["session", "call", "minutes", "name", "number", "departure"] ["session", "call"] d_call_shift.scope := ⟨rfl, rfl, rfl, by decide +kernel, rfl, by decide +kernel, by decide +kernel⟩
theorem ok_call_shift (T : Fx K mg base) : FnX P w K mg base 5 "call_shift" (HSp K (d11 .shift)) := by
  obtain ⟨fd, F⟩ := F_call_shift T
  refine ⟨⟨_, fd, ["session", "call"], F.ok sc_call_shift (fun vs H Q E h => ?_) (fun cdv A outer s H vs Q E hr h => ⟨_, pss_cons (ps_set (i := 2) sc_call_shift.nd rfl (Or.inl rfl) (pe_ix ix_list (pe_fld (pv 1) rfl) (pe_int) (fun _ _ => rfl))) (pss_cons (ps_set (i := 3) sc_call_shift.nd rfl (Or.inl rfl) (pe_ix ix_list (pe_fld (pv 1) rfl) (pe_int) (fun _ _ => rfl))) (pss_cons (ps_expr (pe_cx (ok_need_shift T) hr (by decide) rfl (takes_of rfl rfl rfl rfl) (pa_cons (pv 2) pa_nil))) (pss_cons (ps_expr (pe_cx (ok_need_name T) hr (by decide) rfl (takes_of rfl rfl rfl rfl) (pa_cons (pv 3) pa_nil))) (pss_cons (ps_set (i := 4) sc_call_shift.nd rfl (Or.inl rfl) (pe_cx (ok_number_of_departure T) hr (by decide) rfl (takes_of rfl rfl rfl rfl) (pa_cons (pe_fld (pv 0) rfl) (pa_cons (pv 3) pa_nil)))) (pss_cons (ps_fld (pv 0) (pe_cx (ok_net_with_shift T) hr (by decide) rfl (takes_of rfl rfl rfl rfl) (pa_cons (pe_fld (pv 0) rfl) (pa_cons (pv 4) (pa_cons (pv 2) pa_nil)))) rfl) (pss_cons (ps_set (i := 5) sc_call_shift.nd rfl (Or.inl rfl) (pe_ix ix_list (pe_fld (pe_fld (pv 0) rfl) rfl) (pv 4) (fun _ _ => rfl))) (pss_one (ps_ret (pe_lst (pa_cons (pe_int) (pa_cons (pe_fld (pv 5) rfl) (pa_cons (pe_fld (pv 5) rfl) pa_nil)))))))))))), ?_⟩), g_call_shift T, F.kp, F.bindsN (fun _ _ _ _ _ _ us hl => match us, hl with | [_, _], _ => rfl)⟩⟩
  · obtain ⟨S, sa, ca, na, n, kind, nums, rows, bh, c, rfl, _⟩ := h
    rfl
  · obtain ⟨S, sa, ca, na, n, kind, nums, rows, bh, c, rfl, hH, hsa, hC, hd, O⟩ := h
    obtain ⟨m, t, rfl, rfl, rfl⟩ := d11_is hd
    obtain ⟨dc, nl, ra, xs, tb, e1, e2, e3, e4, e5, e6⟩ := hC.row
    obtain ⟨ds0, es0⟩ := hH.se
    have rg : Vbtoad.ranged (.shift m t) = true ↔ ¬ Out m (-100000) 100000 ∧ RowOk t 12 255 := by
      show (Vbtoad.within m (-100000) 100000 && Vbtoad.bytesOk t 12) = true ↔ _
      rw [Bool.and_eq_true, within_iff]
      exact and_congr Iff.rfl bytesOk_iff
    refine ⟨_, rfl, ca, _, dc, _, _, rfl, e1, c_Call T, n_Call_numbers T, rfl, nl, _, 0, _, rfl, rfl, SqL.of e2, atI_nat (j := 0) rfl, ?_⟩
    refine ⟨_, rfl, ca, _, dc, _, _, rfl, e1, c_Call T, n_Call_rows T, rfl, ra, xs, 0, .ref tb, rfl, rfl, SqL.of e3, e4, ?_⟩
    refine ⟨_, rfl, m, rfl, fun z => O.no1 (step_no fun y => (rg.mp y).1 z) H (Kp.refl _ _) hH.tb, fun ok1 => ?_⟩
    refine ⟨_, rfl, tb, t, rfl, SqL.of e5, fun z => O.no1 (step_no fun y => z (rg.mp y).2) H (Kp.refl _ _) hH.tb, fun ok => ?_⟩
    have es : Vbtoad.step n (.shift m t) = Vbtoad.act n (.shift m t) := step_yes (rg.mpr ⟨ok1, ok⟩)
    refine ⟨_, rfl, sa, _, ds0, _, _, rfl, es0, c_Session T, n_Session_net T, rfl, _, rfl, S, na, tb, n, Vbtoad.bytes t, rfl, hH.net, SqL.of (by rw [nv_bytes ok]; exact e5), fun eg H1 s1 => ?_, fun i eg H1 s1 => ?_⟩
    · refine O.no5 ?_ H1 (Kp.same s1) (hH.tb.ext s1)
      rw [es]
      show (match Vbtoad.goAt n (Vbtoad.bytes t) with | none => _ | some i => _) = _
      rw [eg]
    · have hi := goAt_lt eg
      have eG : n.goes[i]? = some n.goes[i] := List.getElem?_eq_getElem hi
      have G := hH.wf.go n.goes[i] (List.getElem_mem hi)
      have h1 := hH.same s1
      obtain ⟨ds1, es1⟩ := h1.se
      have ev : Vbtoad.act n (.shift m t) = if ((n.goes[i].dep : Int) + m < 0 ∨ (Vbtoad.LATE : Int) < (n.goes[i].arr : Int) + m) then (n, [-8]) else ({ n with goes := n.goes.set i (shiftGo n.goes[i] m) }, [0, (n.goes[i].dep : Int) + m, (n.goes[i].arr : Int) + m]) := by
        show (match Vbtoad.goAt n (Vbtoad.bytes t) with | none => _ | some i => _) = _
        rw [eg]
        show (match n.goes[i]? with | none => _ | some g => _) = _
        rw [eG]
        rfl
      refine ⟨_, rfl, sa, _, ds1, _, _, rfl, es1, c_Session T, n_Session_net T, rfl, _, rfl, _, rfl, S, na, n, i, n.goes[i], m, rfl, h1.own.used, h1.net, eG, by omega, fun o H2 s2 => ?_, fun o b H2 s2 N2 => ?_⟩
      · refine O.no8 ?_ H2 (Kp.same (s1.trans s2)) (h1.tb.ext s2)
        rw [es, ev]
        exact if_pos o
      · have h2 := h1.same s2
        obtain ⟨ds, es2⟩ := h2.se
        refine ⟨_, rfl, sa, _, ds, _, rfl, es2, c_Session T, n_Session_net T, (by show 1 < 1000; decide), ?_⟩
        let G3 : Hp := upd H2 sa (.ins (He.ga K "Session") ds [("net", .ref b)])
        have k3 : Kp [sa] H2 G3 := Kp.upd (by simp)
        have t3 : Tabs (tabT K) G3 := tabs_kt h2.tb (Kt.upd_ins es2)
        have e3s : G3 sa = some (.ins (He.ga K "Session") ds [("net", .ref b)]) := upd_same
        have N3 := N2.kp (k3.mono fun b m => by rw [List.mem_singleton.mp m]; exact hsa)
        obtain ⟨lp, lc, ld, ⟨⟨⟨dn, en⟩, _⟩, _, _, ⟨dl, ed, rd⟩⟩, _⟩ := id N3
        obtain ⟨gb, egb, dg, sg, f1, _⟩ := rd.at_ i (shiftGo n.goes[i] m) (by
          show (n.goes.set i (shiftGo n.goes[i] m))[i]? = _
          rw [List.getElem?_set, if_pos rfl, if_pos hi])
        refine ⟨_, rfl, sa, _, ds, _, _, rfl, e3s, c_Session T, n_Session_net T, rfl, b, _, dn, _, _, rfl, en, c_Net T, n_Net_departures T, rfl, _, rfl, ld, dl, (i : Int), .ref gb, rfl, rfl, SqL.of ed, atI_nat egb, ?_⟩
        refine ⟨_, rfl, gb, _, dg, _, _, rfl, f1, c_Departure T, n_Departure_leaves T, rfl, _, rfl, gb, _, dg, _, _, rfl, f1, c_Departure T, n_Departure_comes T, rfl, by show 3 ≤ sizeLine; rw [sizeLine_eq]; omega, fun p hp => ?_⟩
        have ea : Vbtoad.step n (.shift m t) = ({ n with goes := n.goes.set i (shiftGo n.goes[i] m) }, [0, (n.goes[i].dep : Int) + m, (n.goes[i].arr : Int) + m]) := by
          rw [es, ev]
          exact if_neg o
        have O2 := O.ret
        rw [ea] at O2
        have s4 : Same G3 (upd G3 p (.lst [.int 0, .int ((shiftGo n.goes[i] m).dep : Int), .int ((shiftGo n.goes[i] m).arr : Int)])) := same_new hp
        refine O2 p b _ (h2.own.used.new (upd_none hp)) ((((Kp.same s1).trans (Kp.same s2)).trans k3).trans (Kp.same s4)) (t3.ext s4) ⟨ds, s4 _ _ e3s⟩ (N3.same s4) ?_
        unfold Outside at o
        have v1 : (((shiftGo n.goes[i] m).dep : Nat) : Int) = (n.goes[i].dep : Int) + m := by
          show ((((n.goes[i].dep : Int) + m).toNat : Nat) : Int) = _
          omega
        have v2 : (((shiftGo n.goes[i] m).arr : Nat) : Int) = (n.goes[i].arr : Int) + m := by
          show ((((n.goes[i].arr : Int) + m).toNat : Nat) : Int) = _
          omega
        show (upd G3 p (.lst [.int 0, .int ((shiftGo n.goes[i] m).dep : Int), .int ((shiftGo n.goes[i] m).arr : Int)])) p = some (.lst [.int 0, .int ((n.goes[i].dep : Int) + m), .int ((n.goes[i].arr : Int) + m)])
        rw [upd_same, v1, v2]
theorem sc_call_state : FnScope ["session", "call"] ["session", "call"] d_call_state.scope := ⟨rfl, rfl, rfl, by decide +kernel, rfl, by decide +kernel, by decide +kernel⟩
theorem ok_call_state (T : Fx K mg base) : FnX P w K mg base 2 "call_state" (HSp K (d00 .state)) := by
  obtain ⟨fd, F⟩ := F_call_state T
  refine ⟨⟨_, fd, ["session", "call"], F.ok sc_call_state (fun vs H Q E h => ?_) (fun cdv A outer s H vs Q E hr h => ⟨_, pss_one (ps_ret (pe_c0 (ok_sizes_of T) hr (by decide) rfl (pa_cons (pe_fld (pv 0) rfl) pa_nil))), ?_⟩), g_call_state T, F.kp, F.bindsN (fun _ _ _ _ _ _ us hl => match us, hl with | [_, _], _ => rfl)⟩⟩
  · obtain ⟨S, sa, ca, na, n, kind, nums, rows, bh, c, rfl, _⟩ := h
    rfl
  · obtain ⟨S, sa, ca, na, n, kind, nums, rows, bh, c, rfl, hH, hsa, hC, hd, O⟩ := h
    obtain ⟨rfl, rfl, rfl⟩ := d00_is hd
    obtain ⟨ds, es⟩ := hH.se
    refine ⟨_, rfl, sa, _, ds, _, _, rfl, es, c_Session T, n_Session_net T, rfl, S, na, n, rfl, hH.net, fun p H2 s2 n2 t2 => ?_⟩
    exact O.told hH (l := 0 :: Vbtoad.ints [n.places.length, n.cars.length, n.goes.length]) (step_yes rfl) (Kp.same s2) (hH.tb.ext s2) (Fresh.none n2) (text_ints t2)
theorem sc_call_find : FnScope ["session", "call", "name"] ["session", "call"] d_call_find.scope := ⟨rfl, rfl, rfl, by decide +kernel, rfl, by decide +kernel, by decide +kernel⟩
theorem ok_call_find (T : Fx K mg base) : FnX P w K mg base 4 "call_find" (HSp K (d01 .find)) := by
  obtain ⟨fd, F⟩ := F_call_find T
  refine ⟨⟨_, fd, ["session", "call"], F.ok sc_call_find (fun vs H Q E h => ?_) (fun cdv A outer s H vs Q E hr h => ⟨_, pss_cons (ps_set (i := 2) sc_call_find.nd rfl (Or.inl rfl) (pe_ix ix_list (pe_fld (pv 1) rfl) (pe_int) (fun _ _ => rfl))) (pss_cons (ps_expr (pe_cx (ok_need_name T) hr (by decide) rfl (takes_of rfl rfl rfl rfl) (pa_cons (pv 2) pa_nil))) (pss_one (ps_ret (pe_op op_cat (pe_lst (pa_cons (pe_int) pa_nil)) (pe_cx (ok_kind_and_number T) hr (by decide) rfl (takes_of rfl rfl rfl rfl) (pa_cons (pe_fld (pv 0) rfl) (pa_cons (pv 2) pa_nil))))))), ?_⟩), g_call_find T, F.kp, F.bindsN (fun _ _ _ _ _ _ us hl => match us, hl with | [_, _], _ => rfl)⟩⟩
  · obtain ⟨S, sa, ca, na, n, kind, nums, rows, bh, c, rfl, _⟩ := h
    rfl
  · obtain ⟨S, sa, ca, na, n, kind, nums, rows, bh, c, rfl, hH, hsa, hC, hd, O⟩ := h
    obtain ⟨t, rfl, rfl, rfl⟩ := d01_is hd
    obtain ⟨dc, nl, ra, xs, tb, e1, e2, e3, e4, e5, e6⟩ := hC.row
    refine ⟨_, rfl, ca, _, dc, _, _, rfl, e1, c_Call T, n_Call_rows T, rfl, ra, xs, 0, .ref tb, rfl, rfl, SqL.of e3, e4, ?_⟩
    refine ⟨_, rfl, tb, t, rfl, SqL.of e5, fun z => O.no1 (step_no fun y => z (bytesOk_iff.mp y)) H (Kp.refl _ _) hH.tb, fun ok => ?_⟩
    have es : Vbtoad.step n (.find t) = Vbtoad.act n (.find t) := step_yes (bytesOk_iff.mpr ok)
    have ev : Vbtoad.act n (.find t) = (n, match found n (Vbtoad.bytes t) 0 with
      | some i => [0, 0, (i : Int)]
      | none => match found n (Vbtoad.bytes t) 1 with
        | some i => [0, 1, (i : Int)]
        | none => match found n (Vbtoad.bytes t) 2 with
          | some i => [0, 2, (i : Int)]
          | none => [-5]) := rfl
    refine ⟨by show 1 ≤ sizeLine; rw [sizeLine_eq]; omega, fun z hz => ?_⟩
    have s1 : Same H (upd H z (.lst [.int 0])) := same_new hz
    have h1 := hH.same s1
    obtain ⟨ds, es1⟩ := h1.se
    refine ⟨_, rfl, sa, _, ds, _, _, rfl, es1, c_Session T, n_Session_net T, rfl, _, rfl, S, na, tb, n, Vbtoad.bytes t, rfl, h1.net, SqL.of (by rw [nv_bytes ok]; exact s1 _ _ e5), fun f0 f1 f2 H2 s2 => ?_, fun k i no fk p H2 s2 n2 t2 => ?_⟩
    · refine O.no5 ?_ H2 (Kp.same (s1.trans s2)) (h1.tb.ext s2)
      rw [es, ev, f0, f1, f2]
    · refine ⟨z, p, [.int 0], nv [k, i], rfl, rfl, s2 _ _ upd_same, t2, by show 1 + 2 ≤ sizeLine; rw [sizeLine_eq]; omega, fun q hq => ?_⟩
      refine O.told hH (l := 0 :: Vbtoad.ints [k, i]) ?_ (Kp.same ((s1.trans s2).trans (same_new hq))) ((h1.tb.ext s2).ext (same_new hq)) (Fresh.back (Kp.same (s1.trans s2)) (Fresh.none hq)) (zero_cat upd_same (ints_nv _).symm)
      rw [es, ev]
      match k, no, fk with
      | 0, no, fk => rw [fk]; rfl
      | 1, no, fk => rw [no 0 (by omega), fk]; rfl
      | 2, no, fk => rw [no 0 (by omega), no 1 (by omega), fk]; rfl
end
end SJ
end
section
set_option Elab.async false
set_option linter.all false
set_option maxRecDepth 100000
set_option maxHeartbeats 4000000
/-! The calls about what is sure. -/
namespace SJ
open PySem PySem.Spec PyProof.Rows L2 LamX
theorem nat_of {x : Int} (h : 0 ≤ x) : ∃ m : Nat, x = (m : Int) := ⟨x.toNat, by omega⟩
theorem placesOk2 {p d : Int} : PlacesOk [p, d] ↔ (0 ≤ p ∧ p ≤ 7) ∧ (0 ≤ d ∧ d ≤ 7) := by
  unfold PlacesOk
  simp
theorem placesOk1 {p : Int} : PlacesOk [p] ↔ (0 ≤ p ∧ p ≤ 7) := by
  unfold PlacesOk
  simp
theorem placesIn2 {n : Vbtoad.Net} {p d : Nat} : PlacesIn n [(p : Int), (d : Int)] ↔ p < n.places.length ∧ d < n.places.length := by
  unfold PlacesIn
  simp
theorem placesIn1 {n : Vbtoad.Net} {p : Nat} : PlacesIn n [(p : Int)] ↔ p < n.places.length := by
  unfold PlacesIn
  simp
theorem sure_cases {n : Vbtoad.Net} (W : WF n) {d k p t : Nat} (hp : p < n.places.length) (ht : t ≤ 100001) :
    (sureM n d (worthsM n d k) p t = NEVER ∧ Vbtoad.sure n d k p t = none) ∨ (sureM n d (worthsM n d k) p t ≠ NEVER ∧ Vbtoad.sure n d k p t = some (sureM n d (worthsM n d k) p t)) := by
  have S := sureIn_is W d k hp (t := t) (by omega)
  unfold Vbtoad.sure
  cases e : Vbtoad.sureIn n (Vbtoad.roadsOf n) d k p t with
  | none =>
    rw [e] at S
    exact .inl ⟨S.1, rfl⟩
  | some a =>
    rw [e] at S
    have h : sureM n d (worthsM n d k) p t = a := S.1
    have := (S.2 a rfl).1
    rw [h]
    exact .inr ⟨by omega, rfl⟩
theorem orNone_is {n : Vbtoad.Net} (W : WF n) {d k p t : Nat} (hp : p < n.places.length) (ht : t ≤ 100001) : Vbtoad.orNone (Vbtoad.sure n d k p t) = toldM (sureM n d (worthsM n d k) p t) := by
  unfold toldM
  rcases sure_cases W (d := d) (k := k) hp ht with ⟨h1, h2⟩ | ⟨h1, h2⟩
  · rw [h2, if_pos h1]
    rfl
  · rw [h2, if_neg h1]
    rfl
/-- the four numbers of most calls -/
theorem four_ok {k t p d : Int} : (Vbtoad.isK k && (Vbtoad.isTime t && (Vbtoad.isPlace p && Vbtoad.isPlace d))) = true ↔ ¬ Out k 0 3 ∧ ¬ Out t 0 100000 ∧ PlacesOk [p, d] := by
  rw [Bool.and_eq_true, Bool.and_eq_true, Bool.and_eq_true, isK_iff, isTime_iff, isPlace_iff, isPlace_iff, placesOk2]
theorem three_ok {k t p : Int} : (Vbtoad.isK k && (Vbtoad.isTime t && Vbtoad.isPlace p)) = true ↔ ¬ Out k 0 3 ∧ ¬ Out t 0 100000 ∧ PlacesOk [p] := by
  rw [Bool.and_eq_true, Bool.and_eq_true, isK_iff, isTime_iff, isPlace_iff, placesOk1]
theorem step_pl_no {n : Vbtoad.Net} {c : Vbtoad.Call} {l : List Int} {f : List Nat → List Int} (ha : Vbtoad.act n c = (n, Vbtoad.onPlaces n l f)) (hr : Vbtoad.ranged c = true) (h : ¬ PlacesIn n l) : Vbtoad.step n c = (n, [-4]) := by
  rw [step_yes hr, ha, onPlaces_no h]
theorem step_pl_yes {n : Vbtoad.Net} {c : Vbtoad.Call} {l : List Int} {f : List Nat → List Int} (ha : Vbtoad.act n c = (n, Vbtoad.onPlaces n l f)) (hr : Vbtoad.ranged c = true) (h : PlacesIn n l) : Vbtoad.step n c = (n, f (l.map Int.toNat)) := by
  rw [step_yes hr, ha, onPlaces_yes h]
section
open Vbtoad
theorem act_sure (n : Net) (k t p d : Int) : act n (.sure k t p d) = (n, onPlaces n [p, d] fun _ => toldOr (Vbtoad.sure n d.toNat k.toNat p.toNat t.toNat)) := rfl
theorem act_table (n : Net) (k t p : Int) : act n (.table k t p) = (n, onPlaces n [p] fun _ => 0 :: (List.range n.places.length).map fun d => orNone (Vbtoad.sure n d k.toNat p.toNat t.toNat)) := rfl
theorem act_toDo (n : Net) (k t p d : Int) : act n (.toDo k t p d) = (n, onPlaces n [p, d] fun _ => match Vbtoad.toDo n (roadsOf n) d.toNat k.toNat p.toNat t.toNat with
      | none => [-7]
      | some .there => [0, 0, 0]
      | some (.drive c) => [0, 1, (c : Int)]
      | some (.wait g) => [0, 2, (g : Int)]) := rfl
theorem act_play (n : Net) (k t p d : Int) (l : List Int) : act n (.play k t p d l) = (n, onPlaces n [p, d] fun _ => 0 :: orNone (Vbtoad.play n (roadsOf n) d.toNat (l.map Int.toNat) FUEL k.toNat p.toNat t.toNat).2 :: ((Vbtoad.play n (roadsOf n) d.toNat (l.map Int.toNat) FUEL k.toNat p.toNat t.toNat).1.length : Int) :: (Vbtoad.play n (roadsOf n) d.toNat (l.map Int.toNat) FUEL k.toNat p.toNat t.toNat).1.flatMap fun s => Vbtoad.ints [s.kind, s.which, s.at_]) := rfl
theorem act_last (n : Net) (k m p d : Int) : act n (.last k m p d) = (n, onPlaces n [p, d] fun _ => toldOr (lastStart n (roadsOf n) d.toNat k.toNat p.toNat m.toNat)) := rfl
theorem act_profile (n : Net) (k p d : Int) : act n (.profile k p d) = (n, onPlaces n [p, d] fun _ => 0 :: ((Vbtoad.profile n (roadsOf n) d.toNat k.toNat p.toNat).length : Int) :: (Vbtoad.profile n (roadsOf n) d.toNat k.toNat p.toNat).flatMap fun x => Vbtoad.ints [x.1, x.2]) := rfl
theorem act_worst (n : Net) (k t p d : Int) : act n (.worst k t p d) = (n, onPlaces n [p, d] fun _ => match Vbtoad.sure n d.toNat k.toNat p.toNat t.toNat with
      | none => [-7]
      | some a => 0 :: (a : Int) :: ((Vbtoad.worst n (roadsOf n) d.toNat FUEL k.toNat p.toNat t.toNat).length : Int) :: Vbtoad.ints (Vbtoad.worst n (roadsOf n) d.toNat FUEL k.toNat p.toNat t.toNat)) := rfl
theorem act_cars (n : Net) (p d : Int) : act n (.cars p d) = (n, onPlaces n [p, d] fun _ => toldOr (driveTo n (roadsOf n) p.toNat d.toNat)) := rfl
theorem act_who (n : Net) (k t m p : Int) : act n (.who k t m p) = (n, onPlaces n [p] fun _ => 0 :: (((List.range n.places.length).filter fun d => (Vbtoad.sure n d k.toNat p.toNat t.toNat).any fun a => decide (a ≤ m.toNat)).length : Int) :: Vbtoad.ints ((List.range n.places.length).filter fun d => (Vbtoad.sure n d k.toNat p.toNat t.toNat).any fun a => decide (a ≤ m.toNat))) := rfl
theorem act_stands (n : Net) (t m p d : Int) : act n (.stands t m p d) = (n, onPlaces n [p, d] fun _ => toldOr (Vbtoad.stands n (roadsOf n) d.toNat p.toNat t.toNat m.toNat)) := rfl
theorem act_worths (n : Net) (k d : Int) : act n (.worths k d) = (n, onPlaces n [d] fun _ => 0 :: (List.range n.goes.length).map fun i => orNone (look (tableFor n (roadsOf n) d.toNat k.toNat) i)) := rfl
end
theorem start_nats {k t p d : Int} (h1 : ¬ Out k 0 3) (h2 : ¬ Out t 0 100000) (h3 : PlacesOk [p, d]) : ∃ k' t' p' d' : Nat, k = k' ∧ t = t' ∧ p = p' ∧ d = d' ∧ k' ≤ 3 ∧ t' ≤ 100000 := by
  unfold Out at h1 h2
  have h4 := placesOk2.mp h3
  exact ⟨k.toNat, t.toNat, p.toNat, d.toNat, by omega, by omega, by omega, by omega, by omega, by omega⟩
theorem start_nats1 {k t p : Int} (h1 : ¬ Out k 0 3) (h2 : ¬ Out t 0 100000) (h3 : PlacesOk [p]) : ∃ k' t' p' : Nat, k = k' ∧ t = t' ∧ p = p' ∧ k' ≤ 3 ∧ t' ≤ 100000 := by
  unfold Out at h1 h2
  have h4 := placesOk1.mp h3
  exact ⟨k.toNat, t.toNat, p.toNat, by omega, by omega, by omega, by omega, by omega⟩
section
variable {P : Program} {w : World} {K : PySem.W.Frag} {mg : Str → Option Value} {base : Heap}
theorem sc_call_sure : FnScope ["session", "call", "numbers", "minute"] ["session", "call"] d_call_sure.scope := ⟨rfl, rfl, rfl, by decide +kernel, rfl, by decide +kernel, by decide +kernel⟩
theorem ok_call_sure (T : Fx K mg base) : FnX P w K mg base 10 "call_sure" (HSp K (d40 .sure)) := by
  obtain ⟨fd, F⟩ := F_call_sure T
  refine ⟨⟨_, fd, ["session", "call"], F.ok sc_call_sure (fun vs H Q E h => ?_) (fun cdv A outer s H vs Q E hr h => ⟨_, pss_cons (ps_set (i := 2) sc_call_sure.nd rfl (Or.inl rfl) (pe_fld (pv 1) rfl)) (pss_cons (ps_expr (pe_cx (ok_need_start T) hr (by decide) rfl (takes_of rfl rfl rfl rfl) (pa_cons (pv 0) (pa_cons (pv 2) pa_nil)))) (pss_cons (ps_set (i := 3) sc_call_sure.nd rfl (Or.inl rfl) (pe_c0 (ok_sure_from T) hr (by decide) rfl (pa_cons (pe_c0 (ok_outlook_of T) hr (by decide) rfl (pa_cons (pv 0) (pa_cons (pv 2) pa_nil))) (pa_cons (pe_ix ix_list (pv 2) (pe_int) (fun _ _ => rfl)) (pa_cons (pe_ix ix_list (pv 2) (pe_int) (fun _ _ => rfl)) (pa_cons (pe_ix ix_list (pv 2) (pe_int) (fun _ _ => rfl)) pa_nil)))))) (pss_cons (ps_expr (pe_cx (ok_need_some T) hr (by decide) rfl (takes_of rfl rfl rfl rfl) (pa_cons (pv 3) pa_nil))) (pss_one (ps_ret (pe_lst (pa_cons (pe_int) (pa_cons (pv 3) pa_nil)))))))), ?_⟩), g_call_sure T, F.kp, F.bindsN (fun _ _ _ _ _ _ us hl => match us, hl with | [_, _], _ => rfl)⟩⟩
  · obtain ⟨S, sa, ca, na, n, kind, nums, rows, bh, c, rfl, _⟩ := h
    rfl
  · obtain ⟨S, sa, ca, na, n, kind, nums, rows, bh, c, rfl, hH, hsa, hC, hd, O⟩ := h
    obtain ⟨k, t, p, d, rfl, rfl, rfl⟩ := d40_is hd
    obtain ⟨dc, nl, ra, xs, e1, e2, _⟩ := id hC
    refine ⟨_, rfl, ca, _, dc, _, _, rfl, e1, c_Call T, n_Call_numbers T, rfl, ?_⟩
    refine ⟨_, rfl, _, rfl, S, sa, na, nl, n, k, t, [p, d], rfl, hH, SqL.of e2, by show 2 ≤ 10; decide, fun z H1 s1 => O.no1 (step_no fun y => ?_) H1 (Kp.same s1) (hH.tb.ext s1), fun o1 o2 o3 o4 H1 s1 => O.no4 ?_ H1 (Kp.same s1) (hH.tb.ext s1), fun o1 o2 o3 o4 H1 s1 => ?_⟩
    · obtain ⟨y1, y2, y3⟩ := four_ok.mp y
      rcases z with z | z | z
      · exact y1 z
      · exact y2 z
      · exact z y3
    · exact step_pl_no (act_sure n k t p d) (four_ok.mpr ⟨o1, o2, o3⟩) o4
    · obtain ⟨k, t, p, d, rfl, rfl, rfl, rfl, hk, ht⟩ := start_nats o1 o2 o3
      obtain ⟨hp, hdn⟩ := placesIn2.mp o4
      have h1 := hH.same s1
      have es : Vbtoad.step n (.sure k t p d) = (n, Vbtoad.toldOr (Vbtoad.sure n d k p t)) := by
        exact step_pl_yes (act_sure n (k : Int) (t : Int) (p : Int) (d : Int)) (four_ok.mpr ⟨o1, o2, o3⟩) o4
      refine ⟨_, rfl, _, rfl, S, sa, na, nl, n, k, d, (t : Int), (p : Int), rfl, h1, SqL.of (s1 _ _ e2), hdn, hk, fun o H2 k2 t2 o2 => ?_⟩
      have e22 : H2 nl = some (.lst ([(k : Int), t, p, d].map V.int)) := k2.lst (s1 _ _ e2) (by simp)
      refine ⟨_, rfl, nl, _, 0, _, rfl, rfl, SqL.of e22, atI_nat (j := 0) rfl, _, rfl, nl, _, 1, _, rfl, rfl, SqL.of e22, atI_nat (j := 1) rfl, _, rfl, nl, _, 2, _, rfl, rfl, SqL.of e22, atI_nat (j := 2) rfl, S, o, n, d, rowsTo n d (k + 1), k, t, p, worthsM n d k, rfl, o2.at_, rowsTo_get (by omega), hp, fun H3 s3 => ?_⟩
      have k3 : Kp [] H H3 := ((Kp.same s1).trans k2).trans (Kp.same s3)
      have t3 := t2.ext s3
      rcases sure_cases hH.wf (d := d) (k := k) hp (t := t) (by omega) with ⟨c1, c2⟩ | ⟨c1, c2⟩
      · refine ⟨_, rfl, _, rfl, fun _ => O.no7 ?_ H3 k3 t3, fun z => absurd c1 z⟩
        rw [es, c2]
        rfl
      · refine ⟨_, rfl, _, rfl, fun z => absurd z c1, fun _ => ⟨_, rfl, by show 2 ≤ sizeLine; rw [sizeLine_eq]; omega, fun r hr => ?_⟩⟩
        refine O.told hH (l := [0, (sureM n d (worthsM n d k) p t : Int)]) ?_ (k3.trans (Kp.new hr)) (t3.ext (same_new hr)) (Fresh.back k3 (Fresh.none hr)) upd_same
        rw [es, c2]
        rfl
theorem sc_call_table : FnScope ["session", "call", "numbers"] ["session", "call"] d_call_table.scope := ⟨rfl, rfl, rfl, by decide +kernel, rfl, by decide +kernel, by decide +kernel⟩
theorem ok_call_table (T : Fx K mg base) : FnX P w K mg base 9 "call_table" (HSp K (d30 .table)) := by
  obtain ⟨fd, F⟩ := F_call_table T
  refine ⟨⟨_, fd, ["session", "call"], F.ok sc_call_table (fun vs H Q E h => ?_) (fun cdv A outer s H vs Q E hr h => ⟨_, pss_cons (ps_set (i := 2) sc_call_table.nd rfl (Or.inl rfl) (pe_fld (pv 1) rfl)) (pss_cons (ps_expr (pe_cx (ok_need_start T) hr (by decide) rfl (takes_of rfl rfl rfl rfl) (pa_cons (pv 0) (pa_cons (pv 2) pa_nil)))) (pss_one (ps_ret (pe_op op_cat (pe_lst (pa_cons (pe_int) pa_nil)) (pe_c0 (ok_told_minutes T) hr (by decide) rfl (pa_cons (pe_c0 (ok_sure_to_each T) hr (by decide) rfl (pa_cons (pv 0) (pa_cons (pe_ix ix_list (pv 2) (pe_int) (fun _ _ => rfl)) (pa_cons (pe_ix ix_list (pv 2) (pe_int) (fun _ _ => rfl)) (pa_cons (pe_ix ix_list (pv 2) (pe_int) (fun _ _ => rfl)) pa_nil))))) pa_nil)))))), ?_⟩), g_call_table T, F.kp, F.bindsN (fun _ _ _ _ _ _ us hl => match us, hl with | [_, _], _ => rfl)⟩⟩
  · obtain ⟨S, sa, ca, na, n, kind, nums, rows, bh, c, rfl, _⟩ := h
    rfl
  · obtain ⟨S, sa, ca, na, n, kind, nums, rows, bh, c, rfl, hH, hsa, hC, hd, O⟩ := h
    obtain ⟨k, t, p, rfl, rfl, rfl⟩ := d30_is hd
    obtain ⟨dc, nl, ra, xs, e1, e2, _⟩ := id hC
    refine ⟨_, rfl, ca, _, dc, _, _, rfl, e1, c_Call T, n_Call_numbers T, rfl, ?_⟩
    refine ⟨_, rfl, _, rfl, S, sa, na, nl, n, k, t, [p], rfl, hH, SqL.of e2, by show 1 ≤ 10; decide, fun z H1 s1 => O.no1 (step_no fun y => ?_) H1 (Kp.same s1) (hH.tb.ext s1), fun o1 o2 o3 o4 H1 s1 => O.no4 ?_ H1 (Kp.same s1) (hH.tb.ext s1), fun o1 o2 o3 o4 H1 s1 => ?_⟩
    · obtain ⟨y1, y2, y3⟩ := three_ok.mp y
      rcases z with z | z | z
      · exact y1 z
      · exact y2 z
      · exact z y3
    · exact step_pl_no (act_table n k t p) (three_ok.mpr ⟨o1, o2, o3⟩) o4
    · obtain ⟨k, t, p, rfl, rfl, rfl, hk, ht⟩ := start_nats1 o1 o2 o3
      have hp := placesIn1.mp o4
      have h1 := hH.same s1
      have es : Vbtoad.step n (.table k t p) = (n, 0 :: (List.range n.places.length).map fun d => Vbtoad.orNone (Vbtoad.sure n d k p t)) := by
        exact step_pl_yes (act_table n (k : Int) (t : Int) (p : Int)) (three_ok.mpr ⟨o1, o2, o3⟩) o4
      refine ⟨by show 1 ≤ sizeLine; rw [sizeLine_eq]; omega, fun z hz => ?_⟩
      have s2 : Same H1 (upd H1 z (.lst [.int 0])) := same_new hz
      have h2 := h1.same s2
      have e22 : (upd H1 z (.lst [.int 0])) nl = some (.lst ([(k : Int), t, p].map V.int)) := s2 _ _ (s1 _ _ e2)
      have hz2 : (upd H1 z (.lst [.int 0])) z = some (.lst [.int 0]) := upd_same
      refine ⟨_, rfl, _, rfl, nl, _, 0, _, rfl, rfl, SqL.of e22, atI_nat (j := 0) rfl, _, rfl, nl, _, 1, _, rfl, rfl, SqL.of e22, atI_nat (j := 1) rfl, _, rfl, nl, _, 2, _, rfl, rfl, SqL.of e22, atI_nat (j := 2) rfl, S, sa, na, n, k, t, p, rfl, h2, hk, hp, fun l H3 k3 t3 f3 l3 => ?_⟩
      have m8 := hH.wf.np
      refine ⟨l, sureAll n k t p n.places.length, rfl, SqL.of l3, by rw [sureAll_len]; omega, fun l4 H4 s4 n4 e4 => ?_⟩
      refine ⟨z, l4, [.int 0], _, rfl, rfl, s4 _ _ (k3.lst hz2 (by simp)), e4, ?_, fun q hq => ?_⟩
      · rw [List.length_map, List.length_map, sureAll_len, sizeLine_eq]
        show 1 + _ ≤ _
        omega
      · refine O.told hH (l := 0 :: (sureAll n k t p n.places.length).map toldM) ?_ ((((Kp.same (s1.trans s2)).trans k3).trans (Kp.same s4)).trans (Kp.new hq)) ((t3.ext s4).ext (same_new hq)) (Fresh.back (((Kp.same (s1.trans s2)).trans k3).trans (Kp.same s4)) (Fresh.none hq)) (zero_cat upd_same rfl)
        rw [es]
        refine Prod.ext rfl ?_
        show 0 :: _ = 0 :: _
        unfold sureAll
        rw [List.map_map]
        congr 1
        apply List.map_congr_left
        intro d _
        exact orNone_is hH.wf hp (by omega)
theorem sc_call_next : FnScope ["session", "call", "numbers", "choice"] ["session", "call"] d_call_next.scope := ⟨rfl, rfl, rfl, by decide +kernel, rfl, by decide +kernel, by decide +kernel⟩
theorem ok_call_next (T : Fx K mg base) : FnX P w K mg base 10 "call_next" (HSp K (d40 .toDo)) := by
  obtain ⟨fd, F⟩ := F_call_next T
  refine ⟨⟨_, fd, ["session", "call"], F.ok sc_call_next (fun vs H Q E h => ?_) (fun cdv A outer s H vs Q E hr h => ⟨_, pss_cons (ps_set (i := 2) sc_call_next.nd rfl (Or.inl rfl) (pe_fld (pv 1) rfl)) (pss_cons (ps_expr (pe_cx (ok_need_start T) hr (by decide) rfl (takes_of rfl rfl rfl rfl) (pa_cons (pv 0) (pa_cons (pv 2) pa_nil)))) (pss_cons (ps_set (i := 3) sc_call_next.nd rfl (Or.inl rfl) (pe_cx (ok_what_to_do T) hr (by decide) rfl (takes_of rfl rfl rfl rfl) (pa_cons (pe_c0 (ok_outlook_of T) hr (by decide) rfl (pa_cons (pv 0) (pa_cons (pv 2) pa_nil))) (pa_cons (pe_ix ix_list (pv 2) (pe_int) (fun _ _ => rfl)) (pa_cons (pe_ix ix_list (pv 2) (pe_int) (fun _ _ => rfl)) (pa_cons (pe_ix ix_list (pv 2) (pe_int) (fun _ _ => rfl)) pa_nil)))))) (pss_one (ps_ret (pe_lst (pa_cons (pe_int) (pa_cons (pe_fld (pv 3) rfl) (pa_cons (pe_fld (pv 3) rfl) pa_nil)))))))), ?_⟩), g_call_next T, F.kp, F.bindsN (fun _ _ _ _ _ _ us hl => match us, hl with | [_, _], _ => rfl)⟩⟩
  · obtain ⟨S, sa, ca, na, n, kind, nums, rows, bh, c, rfl, _⟩ := h
    rfl
  · obtain ⟨S, sa, ca, na, n, kind, nums, rows, bh, c, rfl, hH, hsa, hC, hd, O⟩ := h
    obtain ⟨k, t, p, d, rfl, rfl, rfl⟩ := d40_is hd
    obtain ⟨dc, nl, ra, xs, e1, e2, _⟩ := id hC
    refine ⟨_, rfl, ca, _, dc, _, _, rfl, e1, c_Call T, n_Call_numbers T, rfl, ?_⟩
    refine ⟨_, rfl, _, rfl, S, sa, na, nl, n, k, t, [p, d], rfl, hH, SqL.of e2, by show 2 ≤ 10; decide, fun z H1 s1 => O.no1 (step_no fun y => ?_) H1 (Kp.same s1) (hH.tb.ext s1), fun o1 o2 o3 o4 H1 s1 => O.no4 ?_ H1 (Kp.same s1) (hH.tb.ext s1), fun o1 o2 o3 o4 H1 s1 => ?_⟩
    · obtain ⟨y1, y2, y3⟩ := four_ok.mp y
      rcases z with z | z | z
      · exact y1 z
      · exact y2 z
      · exact z y3
    · exact step_pl_no (act_toDo n k t p d) (four_ok.mpr ⟨o1, o2, o3⟩) o4
    · obtain ⟨k, t, p, d, rfl, rfl, rfl, rfl, hk, ht⟩ := start_nats o1 o2 o3
      obtain ⟨hp, hdn⟩ := placesIn2.mp o4
      have h1 := hH.same s1
      have es : Vbtoad.step n (.toDo k t p d) = (n, match toDoM n d (worthsM n d k) p t with
          | none => [-7]
          | some x => [0, (actKind x : Int), (actNo x : Int)]) := by
        refine Eq.trans (step_pl_yes (act_toDo n (k : Int) (t : Int) (p : Int) (d : Int)) (four_ok.mpr ⟨o1, o2, o3⟩) o4) (congrArg (fun z => (n, z)) ?_)
        show (match Vbtoad.toDo n (Vbtoad.roadsOf n) d k p t with | none => _ | some .there => _ | some (.drive c) => _ | some (.wait g) => _) = _
        rw [toDo_is hH.wf d k hp (by omega)]
        cases toDoM n d (worthsM n d k) p t with
        | none => rfl
        | some x => cases x <;> rfl
      refine ⟨_, rfl, _, rfl, S, sa, na, nl, n, k, d, (t : Int), (p : Int), rfl, h1, SqL.of (s1 _ _ e2), hdn, hk, fun o H2 k2 t2 o2 => ?_⟩
      have e22 : H2 nl = some (.lst ([(k : Int), t, p, d].map V.int)) := k2.lst (s1 _ _ e2) (by simp)
      refine ⟨_, rfl, nl, _, 0, _, rfl, rfl, SqL.of e22, atI_nat (j := 0) rfl, _, rfl, nl, _, 1, _, rfl, rfl, SqL.of e22, atI_nat (j := 1) rfl, _, rfl, nl, _, 2, _, rfl, rfl, SqL.of e22, atI_nat (j := 2) rfl, S, o, n, d, rowsTo n d (k + 1), k, t, p, worthsM n d k, rfl, o2.at_, rowsTo_get (by omega), hp, t2, fun z H3 x3 t3 => ?_, fun x hx ch H3 x3 t3 f3 c3 => ?_⟩
      · refine O.no7 ?_ H3 (((Kp.same s1).trans k2).trans (Kp.ext x3)) t3
        rw [es, z]
      · obtain ⟨dh, eh⟩ := c3
        refine ⟨_, rfl, ch, _, dh, _, _, rfl, eh, c_Choice T, n_Choice_kind T, rfl, _, rfl, ch, _, dh, _, _, rfl, eh, c_Choice T, n_Choice_number T, rfl, by show 3 ≤ sizeLine; rw [sizeLine_eq]; omega, fun r hr => ?_⟩
        refine O.told hH (l := [0, (actKind x : Int), (actNo x : Int)]) ?_ ((((Kp.same s1).trans k2).trans (Kp.ext x3)).trans (Kp.new hr)) (t3.ext (same_new hr)) (Fresh.back (((Kp.same s1).trans k2).trans (Kp.ext x3)) (Fresh.none hr)) upd_same
        rw [es, hx]
end
end SJ
end
section
set_option Elab.async false
set_option linter.all false
set_option maxRecDepth 100000
set_option maxHeartbeats 4000000
/-! The calls play, worst, last. -/
namespace SJ
open PySem PySem.Spec PyProof.Rows L2 LamX
theorem play_ok {k t p d : Int} {l : List Int} : Vbtoad.ranged (.play k t p d l) = true ↔ ¬ Out k 0 3 ∧ ¬ Out t 0 100000 ∧ PlacesOk [p, d] ∧ RowOk l 30 29 := by
  show (Vbtoad.isK k && (Vbtoad.isTime t && (Vbtoad.isPlace p && (Vbtoad.isPlace d && (decide (l.length ≤ 30) && l.all fun i => Vbtoad.within i 0 29))))) = true ↔ _
  rw [Bool.and_eq_true, Bool.and_eq_true, Bool.and_eq_true, Bool.and_eq_true, Bool.and_eq_true, isK_iff, isTime_iff, isPlace_iff, isPlace_iff, placesOk2, decide_eq_true_eq, List.all_eq_true]
  unfold RowOk
  have e : (∀ x ∈ l, Vbtoad.within x 0 29 = true) ↔ ∀ x ∈ l, 0 ≤ x ∧ x ≤ 29 := by
    constructor
    · intro h x hx
      have := within_iff.mp (h x hx)
      unfold Out at this
      omega
    · intro h x hx
      have := h x hx
      refine within_iff.mpr ?_
      unfold Out
      omega
  rw [e]
  constructor
  · rintro ⟨h1, h2, h3, h4, h5, h6⟩
    exact ⟨h1, h2, ⟨h3, h4⟩, by omega, h6⟩
  · rintro ⟨h1, h2, ⟨h3, h4⟩, h5, h6⟩
    exact ⟨h1, h2, h3, h4, by omega, h6⟩
section
variable {K : PySem.W.Frag} {H H1 : Hp}
/-- a traveller made beside an outlook -/
theorem trav_made {S : List Addr} {o x dx sl : Addr} {n : Vbtoad.Net} {d : Nat} {ws : List (List Nat)} {s : At} (hO : OutSt K S H o n d ws) (hS : Owned S H) (hT : Tabs (tabT K) H) (hx : H x = none) (hd : H dx = none) (nd : dx ≠ x)
    (k1 : Keeps [x] (upd (upd H dx (.own x)) x (.ins (He.ga K "Traveller") dx [])) H1) (T1 : TrIs K H1 x sl s []) (ns : (upd (upd H dx (.own x)) x (.ins (He.ga K "Traveller") dx [])) sl = none) :
    Same H H1 ∧ OutSt K (x :: sl :: S) H1 o n d ws ∧ Owned (x :: sl :: S) H1 ∧ Tabs (tabT K) H1 ∧ Fresh H sl := by
  have s0 : Same H (upd (upd H dx (.own x)) x (.ins (He.ga K "Traveller") dx [])) := same_two hx hd nd
  have s1 : Same H H1 := fun b u eb => k1 b u (by rw [List.mem_singleton]; exact ne_of_none eb hx) (s0 _ _ eb)
  have fsl : Fresh H sl := Fresh.none (s0.free ns)
  have fr : ∀ c ∈ [x, sl], Fresh H c := fun c m => by
    rcases List.mem_cons.mp m with rfl | m
    · exact Fresh.none hx
    · rw [List.mem_singleton.mp m]
      exact fsl
  obtain ⟨dt, et⟩ := T1.1
  exact ⟨s1, (hO.fresh fr).kp (Kp.same s1), Owned.cons_ins et (Owned.cons_lst T1.2 (hS.same s1)), tabs_kt (hT.ext s0) (Kt.keeps k1 (Owned.cons_ins upd_same Owned.nil)), fsl⟩
end
theorem steps_ints (l : List Vbtoad.Step) : (l.flatMap fun s => Vbtoad.ints [s.kind, s.which, s.at_]) = (stepNums l).map fun (x : Nat) => (x : Int) := by
  unfold stepNums Vbtoad.ints
  rw [List.map_flatMap]
section
variable {P : Program} {w : World} {K : PySem.W.Frag} {mg : Str → Option Value} {base : Heap}
theorem sc_call_play : FnScope ["session", "call", "numbers", "cancelled", "outlook", "traveller"] ["session", "call"] d_call_play.scope := ⟨rfl, rfl, rfl, by decide +kernel, rfl, by decide +kernel, by decide +kernel⟩
theorem ok_call_play (T : Fx K mg base) : FnX P w K mg base 10 "call_play" (HSp K (d41 .play)) := by
  obtain ⟨fd, F⟩ := F_call_play T
  refine ⟨⟨_, fd, ["session", "call"], F.ok sc_call_play (fun vs H Q E h => ?_) (fun cdv A outer s H vs Q E hr h => ⟨_, pss_cons (ps_set (i := 2) sc_call_play.nd rfl (Or.inl rfl) (pe_fld (pv 1) rfl)) (pss_cons (ps_set (i := 3) sc_call_play.nd rfl (Or.inl rfl) (pe_ix ix_list (pe_fld (pv 1) rfl) (pe_int) (fun _ _ => rfl))) (pss_cons (ps_expr (pe_cx (ok_need_played T) hr (by decide) rfl (takes_of rfl rfl rfl rfl) (pa_cons (pv 3) pa_nil))) (pss_cons (ps_expr (pe_cx (ok_need_start T) hr (by decide) rfl (takes_of rfl rfl rfl rfl) (pa_cons (pv 0) (pa_cons (pv 2) pa_nil)))) (pss_cons (ps_set (i := 4) sc_call_play.nd rfl (Or.inl rfl) (pe_c0 (ok_outlook_of T) hr (by decide) rfl (pa_cons (pv 0) (pa_cons (pv 2) pa_nil)))) (pss_cons (ps_set (i := 5) sc_call_play.nd rfl (Or.inl rfl) (pe_k0 (ok_Traveller_init T) hr (by decide) rfl (pa_cons (pe_ix ix_list (pv 2) (pe_int) (fun _ _ => rfl)) (pa_cons (pe_ix ix_list (pv 2) (pe_int) (fun _ _ => rfl)) (pa_cons (pe_ix ix_list (pv 2) (pe_int) (fun _ _ => rfl)) pa_nil))))) (pss_cons (ps_expr (pe_cx (ok_play_journey T) hr (by decide) rfl (takes_of rfl rfl rfl rfl) (pa_cons (pv 4) (pa_cons (pv 5) (pa_cons (pv 3) pa_nil))))) (pss_one (ps_ret (pe_op op_cat (pe_lst (pa_cons (pe_int) pa_nil)) (pe_c0 (ok_told_journey T) hr (by decide) rfl (pa_cons (pv 4) (pa_cons (pv 5) pa_nil)))))))))))), ?_⟩), g_call_play T, F.kp, F.bindsN (fun _ _ _ _ _ _ us hl => match us, hl with | [_, _], _ => rfl)⟩⟩
  · obtain ⟨S, sa, ca, na, n, kind, nums, rows, bh, c, rfl, _⟩ := h
    rfl
  · obtain ⟨S, sa, ca, na, n, kind, nums, rows, bh, c, rfl, hH, hsa, hC, hd, O⟩ := h
    obtain ⟨k, t, p, d, ls, rfl, rfl, rfl⟩ := d41_is hd
    obtain ⟨dc, nl, ra, xs, tb, e1, e2, e3, e4, e5, e6⟩ := hC.row
    refine ⟨_, rfl, ca, _, dc, _, _, rfl, e1, c_Call T, n_Call_numbers T, rfl, ?_⟩
    refine ⟨_, rfl, ca, _, dc, _, _, rfl, e1, c_Call T, n_Call_rows T, rfl, ra, xs, 0, .ref tb, rfl, rfl, SqL.of e3, e4, ?_⟩
    refine ⟨_, rfl, tb, ls, rfl, SqL.of e5, fun z => O.no1 (step_no fun y => z (play_ok.mp y).2.2.2) H (Kp.refl _ _) hH.tb, fun ok => ?_⟩
    refine ⟨_, rfl, _, rfl, S, sa, na, nl, n, k, t, [p, d], rfl, hH, SqL.of e2, by show 2 ≤ 10; decide, fun z H1 s1 => O.no1 (step_no fun y => ?_) H1 (Kp.same s1) (hH.tb.ext s1), fun o1 o2 o3 o4 H1 s1 => O.no4 ?_ H1 (Kp.same s1) (hH.tb.ext s1), fun o1 o2 o3 o4 H1 s1 => ?_⟩
    · obtain ⟨y1, y2, y3, _⟩ := play_ok.mp y
      rcases z with z | z | z
      · exact y1 z
      · exact y2 z
      · exact z y3
    · exact step_pl_no (act_play n k t p d ls) (play_ok.mpr ⟨o1, o2, o3, ok⟩) o4
    · obtain ⟨k, t, p, d, rfl, rfl, rfl, rfl, hk, ht⟩ := start_nats o1 o2 o3
      obtain ⟨hp, hdn⟩ := placesIn2.mp o4
      have h1 := hH.same s1
      have es := step_pl_yes (act_play n (k : Int) (t : Int) (p : Int) (d : Int) ls) (play_ok.mpr ⟨o1, o2, o3, ok⟩) o4
      refine ⟨_, rfl, _, rfl, S, sa, na, nl, n, k, d, (t : Int), (p : Int), rfl, h1, SqL.of (s1 _ _ e2), hdn, hk, fun o H2 k2 t2 o2 => ?_⟩
      have e22 : H2 nl = some (.lst ([(k : Int), t, p, d].map V.int)) := k2.lst (s1 _ _ e2) (by simp)
      have h2 := h1.ext k2 t2
      refine ⟨_, rfl, nl, _, 0, _, rfl, rfl, SqL.of e22, atI_nat (j := 0) rfl, _, rfl, nl, _, 1, _, rfl, rfl, SqL.of e22, atI_nat (j := 1) rfl, _, rfl, nl, _, 2, _, rfl, rfl, SqL.of e22, atI_nat (j := 2) rfl, fun tr dx hx hdx nd => ?_⟩
      refine ⟨tr, dx, ⟨k, p, t⟩, rfl, upd_same, fun H3 sl k3 T3 n3 => ⟨rfl, ?_⟩⟩
      obtain ⟨s3, o3, w3, t3, f3⟩ := trav_made o2 h2.own t2 hx hdx nd k3 T3 n3
      have etb : H3 tb = some (.lst (nv (Vbtoad.bytes ls))) := by
        rw [nv_bytes ok]
        exact s3 _ _ (k2.lst (s1 _ _ e5) (by simp))
      have ntb : tb ∉ (tr :: sl :: S) := fun m => by
        have e2' : H2 tb = some (.lst (ls.map V.int)) := k2.lst (s1 _ _ e5) (by simp)
        rcases List.mem_cons.mp m with z | m
        · exact ne_of_none e2' hx z
        · rcases List.mem_cons.mp m with z | m
          · exact f3.ne_lst e2' z
          · exact e6 m
      refine ⟨_, rfl, _, rfl, _, rfl, (tr :: sl :: S), o, tr, sl, tb, n, d, k, ⟨k, p, t⟩, Vbtoad.bytes ls, rfl, o3, by simp, by simp, w3, T3, Nat.le_refl _, hp, by show t ≤ 101000; omega, etb, ntb, t3, fun H4 s4 l k4 t4 T4 l4 pe => ?_⟩
      have o4' : OutSt K (tr :: sl :: S) H4 o n d (rowsTo n d (k + 1)) := o3.kp (k4.mono (by simp))
      refine ⟨by show 1 ≤ sizeLine; rw [sizeLine_eq]; omega, fun z hz => ?_⟩
      have s5 : Same H4 (upd H4 z (.lst [.int 0])) := same_new hz
      refine ⟨_, rfl, _, rfl, (tr :: sl :: S), o, tr, sl, n, d, rowsTo n d (k + 1), s4, l, rfl, (o4'.ext (Kp.same s5)).at_, T4.ext (Kp.same s5), l4, fun q H6 s6 n6 i6 => ?_⟩
      refine ⟨z, q, [.int 0], _, rfl, rfl, s6 _ _ upd_same, i6, ?_, fun r hr => ?_⟩
      · rw [List.length_map, sizeLine_eq]
        simp only [List.length_cons, List.length_map, stepNums_len, List.length_nil]
        omega
      · have kk : Kp [] H H4 := fun b u _ eb tb' => by
          have eb2 := ((Kp.same s1).trans k2) b u (by simp) eb tb'
          refine k4 b u (fun m => ?_) (s3 _ _ eb2) tb'
          rcases List.mem_cons.mp m with y | m
          · exact ne_of_none eb2 hx y
          · exact f3.ne eb2 tb' (List.mem_singleton.mp m)
        refine O.told hH (l := 0 :: (if s4.p = d then (s4.t : Int) else -1) :: (l.length : Int) :: (stepNums l).map fun (x : Nat) => (x : Int)) ?_ ((kk.trans (Kp.same (s5.trans s6))).trans (Kp.new hr)) (((t4.ext s5).ext s6).ext (same_new hr)) (Fresh.back (kk.trans (Kp.same (s5.trans s6))) (Fresh.none hr)) (zero_cat upd_same rfl)
        rw [es]
        refine congrArg (fun z => (n, z)) ?_
        have pe2 : Vbtoad.play n (Vbtoad.roadsOf n) (d : Int).toNat (ls.map Int.toNat) Vbtoad.FUEL (k : Int).toNat (p : Int).toNat (t : Int).toNat = (l, if s4.p = d then some s4.t else none) := pe
        rw [pe2]
        show 0 :: Vbtoad.orNone (if s4.p = d then some s4.t else none) :: (l.length : Int) :: (l.flatMap fun s => Vbtoad.ints [s.kind, s.which, s.at_]) = _
        rw [steps_ints]
        congr 2
        by_cases c : s4.p = d
        · rw [if_pos c, if_pos c]
          rfl
        · rw [if_neg c, if_neg c]
          rfl
theorem sc_call_worst : FnScope ["session", "call", "numbers", "outlook", "minute", "cancelled"] ["session", "call"] d_call_worst.scope := ⟨rfl, rfl, rfl, by decide +kernel, rfl, by decide +kernel, by decide +kernel⟩
theorem ok_call_worst (T : Fx K mg base) : FnX P w K mg base 10 "call_worst" (HSp K (d40 .worst)) := by
  obtain ⟨fd, F⟩ := F_call_worst T
  refine ⟨⟨_, fd, ["session", "call"], F.ok sc_call_worst (fun vs H Q E h => ?_) (fun cdv A outer s H vs Q E hr h => ⟨_, pss_cons (ps_set (i := 2) sc_call_worst.nd rfl (Or.inl rfl) (pe_fld (pv 1) rfl)) (pss_cons (ps_expr (pe_cx (ok_need_start T) hr (by decide) rfl (takes_of rfl rfl rfl rfl) (pa_cons (pv 0) (pa_cons (pv 2) pa_nil)))) (pss_cons (ps_set (i := 3) sc_call_worst.nd rfl (Or.inl rfl) (pe_c0 (ok_outlook_of T) hr (by decide) rfl (pa_cons (pv 0) (pa_cons (pv 2) pa_nil)))) (pss_cons (ps_set (i := 4) sc_call_worst.nd rfl (Or.inl rfl) (pe_c0 (ok_sure_from T) hr (by decide) rfl (pa_cons (pv 3) (pa_cons (pe_ix ix_list (pv 2) (pe_int) (fun _ _ => rfl)) (pa_cons (pe_ix ix_list (pv 2) (pe_int) (fun _ _ => rfl)) (pa_cons (pe_ix ix_list (pv 2) (pe_int) (fun _ _ => rfl)) pa_nil)))))) (pss_cons (ps_expr (pe_cx (ok_need_some T) hr (by decide) rfl (takes_of rfl rfl rfl rfl) (pa_cons (pv 4) pa_nil))) (pss_cons (ps_set (i := 5) sc_call_worst.nd rfl (Or.inl rfl) (pe_cx (ok_play_worst_case T) hr (by decide) rfl (takes_of rfl rfl rfl rfl) (pa_cons (pv 3) (pa_cons (pe_k0 (ok_Traveller_init T) hr (by decide) rfl (pa_cons (pe_ix ix_list (pv 2) (pe_int) (fun _ _ => rfl)) (pa_cons (pe_ix ix_list (pv 2) (pe_int) (fun _ _ => rfl)) (pa_cons (pe_ix ix_list (pv 2) (pe_int) (fun _ _ => rfl)) pa_nil)))) pa_nil)))) (pss_one (ps_ret (pe_op op_cat (pe_lst (pa_cons (pe_int) (pa_cons (pv 4) (pa_cons (pe_callB call_len_seq (by rfl) (b_len T) (by decide +kernel) (pa_cons (pv 5) pa_nil)) pa_nil)))) (pv 5))))))))), ?_⟩), g_call_worst T, F.kp, F.bindsN (fun _ _ _ _ _ _ us hl => match us, hl with | [_, _], _ => rfl)⟩⟩
  · obtain ⟨S, sa, ca, na, n, kind, nums, rows, bh, c, rfl, _⟩ := h
    rfl
  · obtain ⟨S, sa, ca, na, n, kind, nums, rows, bh, c, rfl, hH, hsa, hC, hd, O⟩ := h
    obtain ⟨k, t, p, d, rfl, rfl, rfl⟩ := d40_is hd
    obtain ⟨dc, nl, ra, xs, e1, e2, _⟩ := id hC
    refine ⟨_, rfl, ca, _, dc, _, _, rfl, e1, c_Call T, n_Call_numbers T, rfl, ?_⟩
    refine ⟨_, rfl, _, rfl, S, sa, na, nl, n, k, t, [p, d], rfl, hH, SqL.of e2, by show 2 ≤ 10; decide, fun z H1 s1 => O.no1 (step_no fun y => ?_) H1 (Kp.same s1) (hH.tb.ext s1), fun o1 o2 o3 o4 H1 s1 => O.no4 ?_ H1 (Kp.same s1) (hH.tb.ext s1), fun o1 o2 o3 o4 H1 s1 => ?_⟩
    · obtain ⟨y1, y2, y3⟩ := four_ok.mp y
      rcases z with z | z | z
      · exact y1 z
      · exact y2 z
      · exact z y3
    · exact step_pl_no (act_worst n k t p d) (four_ok.mpr ⟨o1, o2, o3⟩) o4
    · obtain ⟨k, t, p, d, rfl, rfl, rfl, rfl, hk, ht⟩ := start_nats o1 o2 o3
      obtain ⟨hp, hdn⟩ := placesIn2.mp o4
      have h1 := hH.same s1
      have es := step_pl_yes (act_worst n (k : Int) (t : Int) (p : Int) (d : Int)) (four_ok.mpr ⟨o1, o2, o3⟩) o4
      refine ⟨_, rfl, _, rfl, S, sa, na, nl, n, k, d, (t : Int), (p : Int), rfl, h1, SqL.of (s1 _ _ e2), hdn, hk, fun o H2 k2 t2 o2 => ?_⟩
      have e22 : H2 nl = some (.lst ([(k : Int), t, p, d].map V.int)) := k2.lst (s1 _ _ e2) (by simp)
      refine ⟨_, rfl, _, rfl, nl, _, 0, _, rfl, rfl, SqL.of e22, atI_nat (j := 0) rfl, _, rfl, nl, _, 1, _, rfl, rfl, SqL.of e22, atI_nat (j := 1) rfl, _, rfl, nl, _, 2, _, rfl, rfl, SqL.of e22, atI_nat (j := 2) rfl, S, o, n, d, rowsTo n d (k + 1), k, t, p, worthsM n d k, rfl, o2.at_, rowsTo_get (by omega), hp, fun H3 s3 => ?_⟩
      have k3 : Kp [] H H3 := ((Kp.same s1).trans k2).trans (Kp.same s3)
      have t3 := t2.ext s3
      rcases sure_cases hH.wf (d := d) (k := k) hp (t := t) (by omega) with ⟨c1, c2⟩ | ⟨c1, c2⟩
      · refine ⟨_, rfl, _, rfl, fun _ => O.no7 ?_ H3 k3 t3, fun z => absurd c1 z⟩
        rw [es]
        refine congrArg (fun z => (n, z)) ?_
        have c3 : Vbtoad.sure n (d : Int).toNat (k : Int).toNat (p : Int).toNat (t : Int).toNat = none := c2
        rw [c3]
      · refine ⟨_, rfl, _, rfl, fun z => absurd z c1, fun _ => ?_⟩
        have h3 := hH.ext k3 t3
        have o3 := o2.ext (Kp.same s3)
        have e23 : H3 nl = some (.lst ([(k : Int), t, p, d].map V.int)) := s3 _ _ e22
        refine ⟨_, rfl, _, rfl, nl, _, 0, _, rfl, rfl, SqL.of e23, atI_nat (j := 0) rfl, _, rfl, nl, _, 1, _, rfl, rfl, SqL.of e23, atI_nat (j := 1) rfl, _, rfl, nl, _, 2, _, rfl, rfl, SqL.of e23, atI_nat (j := 2) rfl, fun tr dx hx hdx nd => ?_⟩
        refine ⟨tr, dx, ⟨k, p, t⟩, rfl, upd_same, fun H4 sl k4 T4 n4 => ⟨rfl, ?_⟩⟩
        obtain ⟨s4, o4', w4, t4, f4⟩ := trav_made o3 h3.own t3 hx hdx nd k4 T4 n4
        refine ⟨(tr :: sl :: S), o, tr, sl, n, d, k, ⟨k, p, t⟩, rfl, o4', by simp, by simp, w4, T4, Nat.le_refl _, hp, by show t ≤ 101000; omega, t4, fun H5 cl k5 t5 f5 e5 l5 => ?_⟩
        have kk : Kp [] H H5 := fun b u _ eb tb' => by
          have eb2 := k3 b u (by simp) eb tb'
          refine k5 b u (fun m => ?_) (s4 _ _ eb2) tb'
          rcases List.mem_cons.mp m with y | m
          · exact ne_of_none eb2 hx y
          · exact f4.ne eb2 tb' (List.mem_singleton.mp m)
        refine ⟨_, rfl, _, rfl, cl, _, rfl, .inl (SqL.of e5), by show 3 ≤ sizeLine; rw [sizeLine_eq]; omega, fun z hz => ?_⟩
        have s6 := same_new (o := .lst [.int 0, .int ((sureM n d (worthsM n d k) p t : Nat) : Int), .int ((nv (Vbtoad.worst n (Vbtoad.roadsOf n) d Vbtoad.FUEL k p t)).length : Int)]) hz
        refine ⟨_, rfl, z, cl, _, _, rfl, rfl, upd_same, s6 _ _ e5, ?_, fun r hr => ?_⟩
        · rw [nv_len, sizeLine_eq]
          show 3 + _ ≤ _
          have l5' : (Vbtoad.worst n (Vbtoad.roadsOf n) d Vbtoad.FUEL k p t).length ≤ 300 := l5
          omega
        · refine O.told hH (l := 0 :: (sureM n d (worthsM n d k) p t : Int) :: ((Vbtoad.worst n (Vbtoad.roadsOf n) d Vbtoad.FUEL k p t).length : Int) :: Vbtoad.ints (Vbtoad.worst n (Vbtoad.roadsOf n) d Vbtoad.FUEL k p t)) ?_ ((kk.trans (Kp.same s6)).trans (Kp.new hr)) ((t5.ext s6).ext (same_new hr)) (Fresh.back (kk.trans (Kp.same s6)) (Fresh.none hr)) ?_
          · rw [es]
            refine congrArg (fun z => (n, z)) ?_
            have c3 : Vbtoad.sure n (d : Int).toNat (k : Int).toNat (p : Int).toNat (t : Int).toNat = some (sureM n d (worthsM n d k) p t) := c2
            rw [c3]
            rfl
          · unfold IntsAt
            rw [upd_same, List.map_cons, List.map_cons, List.map_cons, ints_nv, nv_len]
            rfl
theorem sc_call_last : FnScope ["session", "call", "numbers", "minute"] ["session", "call"] d_call_last.scope := ⟨rfl, rfl, rfl, by decide +kernel, rfl, by decide +kernel, by decide +kernel⟩
theorem ok_call_last (T : Fx K mg base) : FnX P w K mg base 10 "call_last" (HSp K (d40 .last)) := by
  obtain ⟨fd, F⟩ := F_call_last T
  refine ⟨⟨_, fd, ["session", "call"], F.ok sc_call_last (fun vs H Q E h => ?_) (fun cdv A outer s H vs Q E hr h => ⟨_, pss_cons (ps_set (i := 2) sc_call_last.nd rfl (Or.inl rfl) (pe_fld (pv 1) rfl)) (pss_cons (ps_expr (pe_cx (ok_need_start T) hr (by decide) rfl (takes_of rfl rfl rfl rfl) (pa_cons (pv 0) (pa_cons (pv 2) pa_nil)))) (pss_cons (ps_set (i := 3) sc_call_last.nd rfl (Or.inl rfl) (pe_c0 (ok_last_start T) hr (by decide) rfl (pa_cons (pe_c0 (ok_outlook_of T) hr (by decide) rfl (pa_cons (pv 0) (pa_cons (pv 2) pa_nil))) (pa_cons (pe_ix ix_list (pv 2) (pe_int) (fun _ _ => rfl)) (pa_cons (pe_ix ix_list (pv 2) (pe_int) (fun _ _ => rfl)) (pa_cons (pe_ix ix_list (pv 2) (pe_int) (fun _ _ => rfl)) pa_nil)))))) (pss_cons (ps_if (pt_cmpR op_lt (pv 3) (pe_int) (nomark _)) (pss_one (ps_raise0 rfl (T.exc rfl (g_NothingSure T)) (takes_of rfl rfl rfl rfl) rfl)) (pss_nil)) (pss_one (ps_ret (pe_lst (pa_cons (pe_int) (pa_cons (pv 3) pa_nil)))))))), ?_⟩), g_call_last T, F.kp, F.bindsN (fun _ _ _ _ _ _ us hl => match us, hl with | [_, _], _ => rfl)⟩⟩
  · obtain ⟨S, sa, ca, na, n, kind, nums, rows, bh, c, rfl, _⟩ := h
    rfl
  · obtain ⟨S, sa, ca, na, n, kind, nums, rows, bh, c, rfl, hH, hsa, hC, hd, O⟩ := h
    obtain ⟨k, t, p, d, rfl, rfl, rfl⟩ := d40_is hd
    obtain ⟨dc, nl, ra, xs, e1, e2, _⟩ := id hC
    refine ⟨_, rfl, ca, _, dc, _, _, rfl, e1, c_Call T, n_Call_numbers T, rfl, ?_⟩
    refine ⟨_, rfl, _, rfl, S, sa, na, nl, n, k, t, [p, d], rfl, hH, SqL.of e2, by show 2 ≤ 10; decide, fun z H1 s1 => O.no1 (step_no fun y => ?_) H1 (Kp.same s1) (hH.tb.ext s1), fun o1 o2 o3 o4 H1 s1 => O.no4 ?_ H1 (Kp.same s1) (hH.tb.ext s1), fun o1 o2 o3 o4 H1 s1 => ?_⟩
    · obtain ⟨y1, y2, y3⟩ := four_ok.mp y
      rcases z with z | z | z
      · exact y1 z
      · exact y2 z
      · exact z y3
    · exact step_pl_no (act_last n k t p d) (four_ok.mpr ⟨o1, o2, o3⟩) o4
    · obtain ⟨k, t, p, d, rfl, rfl, rfl, rfl, hk, ht⟩ := start_nats o1 o2 o3
      obtain ⟨hp, hdn⟩ := placesIn2.mp o4
      have h1 := hH.same s1
      have es := step_pl_yes (act_last n (k : Int) (t : Int) (p : Int) (d : Int)) (four_ok.mpr ⟨o1, o2, o3⟩) o4
      refine ⟨_, rfl, _, rfl, S, sa, na, nl, n, k, d, (t : Int), (p : Int), rfl, h1, SqL.of (s1 _ _ e2), hdn, hk, fun o H2 k2 t2 o2 => ?_⟩
      have e22 : H2 nl = some (.lst ([(k : Int), t, p, d].map V.int)) := k2.lst (s1 _ _ e2) (by simp)
      refine ⟨_, rfl, nl, _, 0, _, rfl, rfl, SqL.of e22, atI_nat (j := 0) rfl, _, rfl, nl, _, 1, _, rfl, rfl, SqL.of e22, atI_nat (j := 1) rfl, _, rfl, nl, _, 2, _, rfl, rfl, SqL.of e22, atI_nat (j := 2) rfl, S, o, n, d, rowsTo n d (k + 1), k, t, p, worthsM n d k, rfl, o2.at_, rowsTo_get (by omega), hp, fun H3 s3 => ?_⟩
      have k3 : Kp [] H H3 := ((Kp.same s1).trans k2).trans (Kp.same s3)
      have t3 := t2.ext s3
      refine ⟨_, rfl, _, _, rfl, rfl, _, rfl, ?_⟩
      have li := last_is hH.wf (d := d) (k := k) hp ht
      cases el : Vbtoad.lastStart n (Vbtoad.roadsOf n) d k p t with
      | none =>
        rw [el] at li
        refine ifT (decide_eq_true li) (O.no7 ?_ H3 k3 t3)
        rw [es]
        refine congrArg (fun z => (n, z)) ?_
        show Vbtoad.toldOr (Vbtoad.lastStart n (Vbtoad.roadsOf n) d k p t) = _
        rw [el]
        rfl
      | some m =>
        rw [el] at li
        have li : lastM n d (worthsM n d k) p t n.goes.length = (m : Int) := li
        rw [li]
        refine ifF (decide_eq_false (by omega)) ⟨_, rfl, by show 2 ≤ sizeLine; rw [sizeLine_eq]; omega, fun r hr => ?_⟩
        refine O.told hH (l := [0, (m : Int)]) ?_ (k3.trans (Kp.new hr)) (t3.ext (same_new hr)) (Fresh.back k3 (Fresh.none hr)) upd_same
        rw [es]
        refine congrArg (fun z => (n, z)) ?_
        show Vbtoad.toldOr (Vbtoad.lastStart n (Vbtoad.roadsOf n) d k p t) = _
        rw [el]
        rfl
end
end SJ
end
section
set_option Elab.async false
set_option linter.all false
set_option maxRecDepth 100000
set_option maxHeartbeats 4000000
/-! The calls cars, worths, who, stands, profile. -/
namespace SJ
open PySem PySem.Spec PyProof.Rows L2 LamX
theorem cars_ok {p d : Int} : Vbtoad.ranged (.cars p d) = true ↔ PlacesOk [p, d] := by
  show (Vbtoad.isPlace p && Vbtoad.isPlace d) = true ↔ _
  rw [Bool.and_eq_true, isPlace_iff, isPlace_iff, placesOk2]
theorem worths_ok {k d : Int} : Vbtoad.ranged (.worths k d) = true ↔ ¬ Out k 0 3 ∧ PlacesOk [d] := by
  show (Vbtoad.isK k && Vbtoad.isPlace d) = true ↔ _
  rw [Bool.and_eq_true, isK_iff, isPlace_iff, placesOk1]
theorem who_ok {k t m p : Int} : Vbtoad.ranged (.who k t m p) = true ↔ ¬ Out k 0 3 ∧ ¬ Out t 0 100000 ∧ ¬ Out m 0 100000 ∧ PlacesOk [p] := by
  show (Vbtoad.isK k && (Vbtoad.isTime t && (Vbtoad.isTime m && Vbtoad.isPlace p))) = true ↔ _
  rw [Bool.and_eq_true, Bool.and_eq_true, Bool.and_eq_true, isK_iff, isTime_iff, isTime_iff, isPlace_iff, placesOk1]
theorem stands_ok {t m p d : Int} : Vbtoad.ranged (.stands t m p d) = true ↔ ¬ Out t 0 100000 ∧ ¬ Out m 0 100000 ∧ PlacesOk [p, d] := by
  show (Vbtoad.isTime t && (Vbtoad.isTime m && (Vbtoad.isPlace p && Vbtoad.isPlace d))) = true ↔ _
  rw [Bool.and_eq_true, Bool.and_eq_true, Bool.and_eq_true, isTime_iff, isTime_iff, isPlace_iff, isPlace_iff, placesOk2]
theorem profile_ok {k p d : Int} : Vbtoad.ranged (.profile k p d) = true ↔ ¬ Out k 0 3 ∧ PlacesOk [p, d] := by
  show (Vbtoad.isK k && (Vbtoad.isPlace p && Vbtoad.isPlace d)) = true ↔ _
  rw [Bool.and_eq_true, Bool.and_eq_true, isK_iff, isPlace_iff, isPlace_iff, placesOk2]
theorem out_nat {x lo hi : Int} (h : ¬ Out x lo hi) (h0 : 0 ≤ lo) : ∃ m : Nat, x = m ∧ (m : Int) ≤ hi := by
  unfold Out at h
  exact ⟨x.toNat, by omega, by omega⟩
theorem pl_nat2 {p d : Int} (h : PlacesOk [p, d]) : ∃ p' d' : Nat, p = p' ∧ d = d' := by
  have := placesOk2.mp h
  exact ⟨p.toNat, d.toNat, by omega, by omega⟩
theorem pl_nat1 {p : Int} (h : PlacesOk [p]) : ∃ p' : Nat, p = p' := by
  have := placesOk1.mp h
  exact ⟨p.toNat, by omega⟩
section
variable {P : Program} {w : World} {K : PySem.W.Frag} {mg : Str → Option Value} {base : Heap}
theorem sc_call_cars : FnScope ["session", "call", "minutes"] ["session", "call"] d_call_cars.scope := ⟨rfl, rfl, rfl, by decide +kernel, rfl, by decide +kernel, by decide +kernel⟩
theorem ok_call_cars (T : Fx K mg base) : FnX P w K mg base 5 "call_cars" (HSp K (d20 .cars)) := by
  obtain ⟨fd, F⟩ := F_call_cars T
  refine ⟨⟨_, fd, ["session", "call"], F.ok sc_call_cars (fun vs H Q E h => ?_) (fun cdv A outer s H vs Q E hr h => ⟨_, pss_cons (ps_expr (pe_cx (ok_need_places T) hr (by decide) rfl (takes_of rfl rfl rfl rfl) (pa_cons (pe_fld (pv 0) rfl) (pa_cons (pe_fld (pv 1) rfl) pa_nil)))) (pss_cons (ps_set (i := 2) sc_call_cars.nd rfl (Or.inl rfl) (pe_ix ix_list (pe_ix ix_list (pe_fld (pe_k0 (ok_Ways_init T) hr (by decide) rfl (pa_cons (pe_fld (pv 0) rfl) pa_nil)) rfl) (pe_ix ix_list (pe_fld (pv 1) rfl) (pe_int) (fun _ _ => rfl)) (fun _ _ => rfl)) (pe_ix ix_list (pe_fld (pv 1) rfl) (pe_int) (fun _ _ => rfl)) (fun _ _ => rfl))) (pss_cons (ps_expr (pe_cx (ok_need_some T) hr (by decide) rfl (takes_of rfl rfl rfl rfl) (pa_cons (pv 2) pa_nil))) (pss_one (ps_ret (pe_lst (pa_cons (pe_int) (pa_cons (pv 2) pa_nil))))))), ?_⟩), g_call_cars T, F.kp, F.bindsN (fun _ _ _ _ _ _ us hl => match us, hl with | [_, _], _ => rfl)⟩⟩
  · obtain ⟨S, sa, ca, na, n, kind, nums, rows, bh, c, rfl, _⟩ := h
    rfl
  · obtain ⟨S, sa, ca, na, n, kind, nums, rows, bh, c, rfl, hH, hsa, hC, hd, O⟩ := h
    obtain ⟨p, d, rfl, rfl, rfl⟩ := d20_is hd
    obtain ⟨dc, nl, ra, xs, e1, e2, _⟩ := id hC
    obtain ⟨ds, es0⟩ := hH.se
    refine ⟨_, rfl, sa, _, ds, _, _, rfl, es0, c_Session T, n_Session_net T, rfl, _, rfl, ca, _, dc, _, _, rfl, e1, c_Call T, n_Call_numbers T, rfl, S, na, nl, n, [p, d], rfl, hH.net, SqL.of e2, fun z => O.no1 (step_no fun y => z (cars_ok.mp y)) H (Kp.refl _ _) hH.tb, fun o3 o4 => O.no4 (step_pl_no (act_cars n p d) (cars_ok.mpr o3) o4) H (Kp.refl _ _) hH.tb, fun o3 o4 => ?_⟩
    obtain ⟨p, d, rfl, rfl⟩ := pl_nat2 o3
    obtain ⟨hp, hdn⟩ := placesIn2.mp o4
    have es := step_pl_yes (act_cars n (p : Int) (d : Int)) (cars_ok.mpr o3) o4
    refine ⟨_, rfl, sa, _, ds, _, _, rfl, es0, c_Session T, n_Session_net T, rfl, fun x dx hx hdx nd => ?_⟩
    refine ⟨[x] ++ S, x, dx, na, n, rfl, upd_same, by simp, net_made hH.net hx hdx nd, hH.wf, fun H1 cl rl f1 t1 t2 k => ⟨rfl, ?_⟩⟩
    obtain ⟨s1, w1⟩ := ways_done hH.own hx hdx nd f1 t1 t2 k
    obtain ⟨dw, cl', rl', f2, _, u1, _⟩ := w1
    obtain ⟨xs1, b, g1, g2, g3, g4⟩ := tab_get u1 hp hdn
    have e1' := s1 _ _ e1
    have e2' : H1 nl = some (.lst ([(p : Int), d].map V.int)) := s1 _ _ e2
    refine ⟨x, _, dw, _, _, rfl, f2, c_Ways T, n_Ways_coming T, rfl, _, rfl, ca, _, dc, _, _, rfl, e1', c_Call T, n_Call_numbers T, rfl, nl, _, 0, _, rfl, rfl, SqL.of e2', atI_nat (j := 0) rfl, cl', xs1, (p : Int), .ref b, rfl, rfl, SqL.of g1, g2, _, rfl, ca, _, dc, _, _, rfl, e1', c_Call T, n_Call_numbers T, rfl, nl, _, 1, _, rfl, rfl, SqL.of e2', atI_nat (j := 1) rfl, b, _, (d : Int), _, rfl, rfl, SqL.of g3, g4, ?_⟩
    have ed : Vbtoad.driveTo n (Vbtoad.roadsOf n) p d = dec (D n p d) := drive_is hH.wf hp
    have nv' := D_never n p d
    by_cases c : D n p d = NEVER
    · refine ⟨_, rfl, _, rfl, fun _ => O.no7 ?_ H1 (Kp.same s1) (hH.tb.ext s1), fun z => absurd c z⟩
      rw [es]
      refine congrArg (fun z => (n, z)) ?_
      show Vbtoad.toldOr (Vbtoad.driveTo n (Vbtoad.roadsOf n) p d) = _
      rw [ed, c]
      rfl
    · refine ⟨_, rfl, _, rfl, fun z => absurd z c, fun _ => ⟨_, rfl, by show 2 ≤ sizeLine; rw [sizeLine_eq]; omega, fun r hr => ?_⟩⟩
      refine O.told hH (l := [0, (D n p d : Int)]) ?_ ((Kp.same s1).trans (Kp.new hr)) ((hH.tb.ext s1).ext (same_new hr)) (Fresh.back (Kp.same s1) (Fresh.none hr)) upd_same
      rw [es]
      refine congrArg (fun z => (n, z)) ?_
      show Vbtoad.toldOr (Vbtoad.driveTo n (Vbtoad.roadsOf n) p d) = _
      rw [ed, dec_of (by omega)]
      rfl
theorem sc_call_worths : FnScope ["session", "call", "k"] ["session", "call"] d_call_worths.scope := ⟨rfl, rfl, rfl, by decide +kernel, rfl, by decide +kernel, by decide +kernel⟩
theorem ok_call_worths (T : Fx K mg base) : FnX P w K mg base 9 "call_worths" (HSp K (d20 .worths)) := by
  obtain ⟨fd, F⟩ := F_call_worths T
  refine ⟨⟨_, fd, ["session", "call"], F.ok sc_call_worths (fun vs H Q E h => ?_) (fun cdv A outer s H vs Q E hr h => ⟨_, pss_cons (ps_set (i := 2) sc_call_worths.nd rfl (Or.inl rfl) (pe_ix ix_list (pe_fld (pv 1) rfl) (pe_int) (fun _ _ => rfl))) (pss_cons (ps_expr (pe_cx (ok_need_k T) hr (by decide) rfl (takes_of rfl rfl rfl rfl) (pa_cons (pv 2) pa_nil))) (pss_cons (ps_expr (pe_cx (ok_need_places T) hr (by decide) rfl (takes_of rfl rfl rfl rfl) (pa_cons (pe_fld (pv 0) rfl) (pa_cons (pe_slice sl_list (pe_fld (pv 1) rfl) (po_some (pe_int)) (po_none)) pa_nil)))) (pss_one (ps_ret (pe_op op_cat (pe_lst (pa_cons (pe_int) pa_nil)) (pe_c0 (ok_told_minutes T) hr (by decide) rfl (pa_cons (pe_ix ix_list (pe_fld (pe_c0 (ok_outlook_to T) hr (by decide) rfl (pa_cons (pv 0) (pa_cons (pe_ix ix_list (pe_fld (pv 1) rfl) (pe_int) (fun _ _ => rfl)) (pa_cons (pv 2) pa_nil)))) rfl) (pv 2) (fun _ _ => rfl)) pa_nil))))))), ?_⟩), g_call_worths T, F.kp, F.bindsN (fun _ _ _ _ _ _ us hl => match us, hl with | [_, _], _ => rfl)⟩⟩
  · obtain ⟨S, sa, ca, na, n, kind, nums, rows, bh, c, rfl, _⟩ := h
    rfl
  · obtain ⟨S, sa, ca, na, n, kind, nums, rows, bh, c, rfl, hH, hsa, hC, hd, O⟩ := h
    obtain ⟨k, d, rfl, rfl, rfl⟩ := d20_is hd
    obtain ⟨dc, nl, ra, xs, e1, e2, _⟩ := id hC
    obtain ⟨ds, es0⟩ := hH.se
    refine ⟨_, rfl, ca, _, dc, _, _, rfl, e1, c_Call T, n_Call_numbers T, rfl, nl, _, 0, _, rfl, rfl, SqL.of e2, atI_nat (j := 0) rfl, ?_⟩
    refine ⟨_, rfl, k, rfl, fun z => O.no1 (step_no fun y => (worths_ok.mp y).1 z) H (Kp.refl _ _) hH.tb, fun o1 => ?_⟩
    refine ⟨_, rfl, sa, _, ds, _, _, rfl, es0, c_Session T, n_Session_net T, rfl, _, rfl, ca, _, dc, _, _, rfl, e1, c_Call T, n_Call_numbers T, rfl, 1, rfl, nl, _, rfl, SqL.of e2, fun pl hpl => ?_⟩
    have s1 : Same H (upd H pl (.lst ([d].map V.int))) := same_new hpl
    refine ⟨S, na, pl, n, [d], rfl, hH.net.same (same_new hpl), SqL.of (upd_same (o := .lst ([d].map V.int))), fun z => O.no1 (step_no fun y => z (worths_ok.mp y).2) _ (Kp.new hpl) (hH.tb.ext (same_new hpl)), fun o3 o4 => O.no4 (step_pl_no (act_worths n k d) (worths_ok.mpr ⟨o1, o3⟩) o4) _ (Kp.new hpl) (hH.tb.ext (same_new hpl)), fun o3 o4 => ?_⟩
    obtain ⟨k, rfl, hk⟩ := out_nat o1 (by decide)
    obtain ⟨d, rfl⟩ := pl_nat1 o3
    have hdn := placesIn1.mp o4
    have es := step_pl_yes (act_worths n (k : Int) (d : Int)) (worths_ok.mpr ⟨o1, o3⟩) o4
    have h1 := hH.same s1
    refine ⟨by show 1 ≤ sizeLine; rw [sizeLine_eq]; omega, fun z hz => ?_⟩
    let G1 : Hp := upd H pl (.lst ([(d : Int)].map V.int))
    have s2 : Same G1 (upd G1 z (.lst [.int 0])) := same_new hz
    have h2 := h1.same s2
    have e12 := s2 _ _ (s1 _ _ e1)
    have e22 : (upd G1 z (.lst [.int 0])) nl = some (.lst ([(k : Int), d].map V.int)) := s2 _ _ (s1 _ _ e2)
    have hz2 : (upd G1 z (.lst [.int 0])) z = some (.lst [.int 0]) := upd_same
    refine ⟨_, rfl, _, rfl, ca, _, dc, _, _, rfl, e12, c_Call T, n_Call_numbers T, rfl, nl, _, 1, _, rfl, rfl, SqL.of e22, atI_nat (j := 1) rfl, _, rfl, S, sa, na, n, d, k, rfl, h2, hdn, by omega, fun o H3 k3 t3 o3' => ?_⟩
    obtain ⟨na', wa, wl, hI, _⟩ := o3'.ex
    obtain ⟨da, ea⟩ := hI.own.1
    obtain ⟨ws, ew, rw'⟩ := hI.ls
    obtain ⟨rb, erb, trb⟩ := rw'.at_ k (worthsM n d k) (rowsTo_get (by omega))
    have g30 := hH.wf.ng
    refine ⟨o, _, da, _, _, rfl, ea, c_Outlook T, n_Outlook_worths T, rfl, _, rfl, wl, ws, (k : Int), .ref rb, rfl, rfl, SqL.of ew, atI_nat erb, rb, worthsM n d k, rfl, SqL.of trb, by rw [worthsM_len]; omega, fun l4 H4 s4 n4 e4 => ?_⟩
    refine ⟨z, l4, [.int 0], _, rfl, rfl, s4 _ _ (k3.lst hz2 (by simp)), e4, ?_, fun q hq => ?_⟩
    · rw [List.length_map, List.length_map, worthsM_len, sizeLine_eq]
      show 1 + _ ≤ _
      omega
    · refine O.told hH (l := 0 :: (worthsM n d k).map toldM) ?_ ((((Kp.same (s1.trans s2)).trans k3).trans (Kp.same s4)).trans (Kp.new hq)) ((t3.ext s4).ext (same_new hq)) (Fresh.back (((Kp.same (s1.trans s2)).trans k3).trans (Kp.same s4)) (Fresh.none hq)) (zero_cat upd_same rfl)
      rw [es]
      refine congrArg (fun z => (n, z)) ?_
      show 0 :: (List.range n.goes.length).map (fun i => Vbtoad.orNone (look (Vbtoad.tableFor n (Vbtoad.roadsOf n) d k) i)) = 0 :: _
      congr 1
      have C := worths_rel hH.wf d k
      apply List.ext_getElem?
      intro i
      rw [List.getElem?_map, List.getElem?_map]
      by_cases hi : i < n.goes.length
      · rw [List.getElem?_range hi, C.at_ i hi]
        show some (Vbtoad.orNone _) = some (toldM _)
        congr 1
        cases el : look (Vbtoad.tableFor n (Vbtoad.roadsOf n) d k) i with
        | none => rfl
        | some a =>
          have := C.low i a (look_mem el)
          have hN : NEVER = 1000000000 := rfl
          show (a : Int) = toldM a
          unfold toldM
          rw [if_neg (by omega)]
      · rw [List.getElem?_eq_none (by rw [List.length_range]; omega), List.getElem?_eq_none (by rw [worthsM_len]; omega)]
        rfl
theorem sc_call_who : FnScope ["session", "call", "numbers", "limit", "minutes", "places", "place", "minute"] ["session", "call"] d_call_who.scope := ⟨rfl, rfl, rfl, by decide +kernel, rfl, by decide +kernel, by decide +kernel⟩
theorem ok_call_who (T : Fx K mg base) : FnX P w K mg base 9 "call_who" (HSp K (d40 .who)) := by
  obtain ⟨fd, F⟩ := F_call_who T
  refine ⟨⟨_, fd, ["session", "call"], F.ok sc_call_who (fun vs H Q E h => ?_) (fun cdv A outer s H vs Q E hr h => ⟨_, pss_cons (ps_set (i := 2) sc_call_who.nd rfl (Or.inl rfl) (pe_fld (pv 1) rfl)) (pss_cons (ps_set (i := 3) sc_call_who.nd rfl (Or.inr rfl) (pe_ix ix_list (pv 2) (pe_int) (fun _ _ => rfl))) (pss_cons (ps_expr (pe_cx (ok_need_k T) hr (by decide) rfl (takes_of rfl rfl rfl rfl) (pa_cons (pe_ix ix_list (pv 2) (pe_int) (fun _ _ => rfl)) pa_nil))) (pss_cons (ps_expr (pe_cx (ok_need_minute T) hr (by decide) rfl (takes_of rfl rfl rfl rfl) (pa_cons (pe_ix ix_list (pv 2) (pe_int) (fun _ _ => rfl)) pa_nil))) (pss_cons (ps_expr (pe_cx (ok_need_minute T) hr (by decide) rfl (takes_of rfl rfl rfl rfl) (pa_cons (pv 3) pa_nil))) (pss_cons (ps_expr (pe_cx (ok_need_places T) hr (by decide) rfl (takes_of rfl rfl rfl rfl) (pa_cons (pe_fld (pv 0) rfl) (pa_cons (pe_slice sl_list (pv 2) (po_some (pe_int)) (po_none)) pa_nil)))) (pss_cons (ps_set (i := 4) sc_call_who.nd rfl (Or.inl rfl) (pe_c0 (ok_sure_to_each T) hr (by decide) rfl (pa_cons (pv 0) (pa_cons (pe_ix ix_list (pv 2) (pe_int) (fun _ _ => rfl)) (pa_cons (pe_ix ix_list (pv 2) (pe_int) (fun _ _ => rfl)) (pa_cons (pe_ix ix_list (pv 2) (pe_int) (fun _ _ => rfl)) pa_nil)))))) (pss_cons (ps_setLc (i := 5) (own := [("place", 6), ("minute", 7)]) (by rfl) sc_call_who.nd rfl rfl (sw_true rfl rfl rfl (by decide +kernel)) (pi_enum (by rfl) (b_enumerate T) (pa_cons (pv 4) pa_nil)) (blkOk_by (own := [("place", 6), ("minute", 7)]) (N := ["session", "call", "numbers", "limit", "minutes", "places", "place", "minute"]) (sc := d_call_who.scope) (by decide +kernel)) (fun _ _ _ _ _ => pg_tupK (K := K) (n := 2) rfl rfl (pgs_cons (pg_name (i := 6) sc_call_who.nd rfl (Or.inl rfl)) (pgs_cons (pg_name (i := 7) sc_call_who.nd rfl (Or.inl rfl)) pgs_nil))) (fun _ _ _ _ _ => pts_one (pt_cmpR op_le (pv 7) (pv 3) (nomark _))) (fun _ _ _ _ _ => pv 6)) (pss_one (ps_ret (pe_op op_cat (pe_lst (pa_cons (pe_int) (pa_cons (pe_callB call_len_seq (by rfl) (b_len T) (by decide +kernel) (pa_cons (pv 5) pa_nil)) pa_nil))) (pv 5))))))))))), ?_⟩), g_call_who T, F.kp, F.bindsN (fun _ _ _ _ _ _ us hl => match us, hl with | [_, _], _ => rfl)⟩⟩
  · obtain ⟨S, sa, ca, na, n, kind, nums, rows, bh, c, rfl, _⟩ := h
    rfl
  · obtain ⟨S, sa, ca, na, n, kind, nums, rows, bh, c, rfl, hH, hsa, hC, hd, O⟩ := h
    obtain ⟨k, t, m, p, rfl, rfl, rfl⟩ := d40_is hd
    obtain ⟨dc, nl, ra, xs, e1, e2, _⟩ := id hC
    obtain ⟨ds, es0⟩ := hH.se
    refine ⟨_, rfl, ca, _, dc, _, _, rfl, e1, c_Call T, n_Call_numbers T, rfl, ?_⟩
    refine ⟨_, rfl, nl, _, 2, _, rfl, rfl, SqL.of e2, atI_nat (j := 2) rfl, ?_⟩
    refine ⟨_, rfl, nl, _, 0, _, rfl, rfl, SqL.of e2, atI_nat (j := 0) rfl, k, rfl, fun z => O.no1 (step_no fun y => (who_ok.mp y).1 z) H (Kp.refl _ _) hH.tb, fun o1 => ?_⟩
    refine ⟨_, rfl, nl, _, 1, _, rfl, rfl, SqL.of e2, atI_nat (j := 1) rfl, t, rfl, fun z => O.no1 (step_no fun y => (who_ok.mp y).2.1 z) H (Kp.refl _ _) hH.tb, fun o2 => ?_⟩
    refine ⟨_, rfl, m, rfl, fun z => O.no1 (step_no fun y => (who_ok.mp y).2.2.1 z) H (Kp.refl _ _) hH.tb, fun o2' => ?_⟩
    refine ⟨_, rfl, sa, _, ds, _, _, rfl, es0, c_Session T, n_Session_net T, rfl, _, rfl, 3, rfl, nl, _, rfl, SqL.of e2, fun pl hpl => ?_⟩
    have s1 : Same H (upd H pl (.lst ([p].map V.int))) := same_new hpl
    refine ⟨S, na, pl, n, [p], rfl, hH.net.same (same_new hpl), SqL.of (upd_same (o := .lst ([p].map V.int))), fun z => O.no1 (step_no fun y => z (who_ok.mp y).2.2.2) _ (Kp.new hpl) (hH.tb.ext (same_new hpl)), fun o3 o4 => O.no4 (step_pl_no (act_who n k t m p) (who_ok.mpr ⟨o1, o2, o2', o3⟩) o4) _ (Kp.new hpl) (hH.tb.ext (same_new hpl)), fun o3 o4 => ?_⟩
    obtain ⟨k, rfl, hk⟩ := out_nat o1 (by decide)
    obtain ⟨t, rfl, ht⟩ := out_nat o2 (by decide)
    obtain ⟨m, rfl, hm⟩ := out_nat o2' (by decide)
    obtain ⟨p, rfl⟩ := pl_nat1 o3
    have hp := placesIn1.mp o4
    have es := step_pl_yes (act_who n (k : Int) (t : Int) (m : Int) (p : Int)) (who_ok.mpr ⟨o1, o2, o2', o3⟩) o4
    have h1 := hH.same s1
    let G1 : Hp := upd H pl (.lst ([(p : Int)].map V.int))
    have e22 : G1 nl = some (.lst ([(k : Int), t, m, p].map V.int)) := s1 _ _ e2
    refine ⟨_, rfl, _, rfl, nl, _, 0, _, rfl, rfl, SqL.of e22, atI_nat (j := 0) rfl, _, rfl, nl, _, 1, _, rfl, rfl, SqL.of e22, atI_nat (j := 1) rfl, _, rfl, nl, _, 3, _, rfl, rfl, SqL.of e22, atI_nat (j := 3) rfl, S, sa, na, n, k, t, p, rfl, h1, by omega, hp, fun l H3 k3 t3 f3 l3 => ?_⟩
    have m8 := hH.wf.np
    let good : Nat → List Nat := fun i => (List.range i).filter fun d => decide (sureM n d (worthsM n d k) p t ≤ m)
    have gl : ∀ i, (good i).length ≤ i := fun i => by
      refine Nat.le_trans (List.length_filter_le _ _) ?_
      rw [List.length_range]
      exact Nat.le_refl _
    refine ⟨_, rfl, l, _, rfl, SqL.of l3, fun Dl hD => lc_it (walk_enum (xs := nv (sureAll n k t p n.places.length))) (fun i G => Same H3 G ∧ G Dl = some (.lst (nv (good i)))) ⟨same_new hD, upd_same⟩ (fun i G _ h => SqL.of (h.1 _ _ l3)) ?_ ?_⟩
    · rintro i v G G2 hi ⟨s4, d4⟩ ⟨tp, y, z, rfl, htp, rfl, hy, hz⟩
      obtain rfl := Option.some.inj hy
      obtain ⟨v, hv, rfl⟩ := nv_get hz
      have hil : i < n.places.length := by
        have := (List.getElem?_eq_some_iff.mp hv).1
        rw [sureAll_len] at this
        exact this
      have ev : v = sureM n i (worthsM n i k) p t := by
        unfold sureAll at hv
        rw [List.getElem?_map, List.getElem?_range hil] at hv
        exact (Option.some.inj hv).symm
      have s5 := same_new (o := .tup [.int (i : Nat), .int (v : Nat)]) htp
      have gs : good (i + 1) = good i ++ if v ≤ m then [i] else [] := by
        show (List.range (i + 1)).filter _ = (List.range i).filter _ ++ _
        rw [List.range_succ, List.filter_append, List.filter_cons, List.filter_nil, ← ev]
        congr 1
        by_cases c : v ≤ m
        · rw [if_pos c, if_pos (decide_eq_true c)]
        · rw [if_neg c, if_neg (by rw [decide_eq_false c]; exact Bool.false_ne_true)]
      refine ⟨tp, _, rfl, SqT.of upd_same, rfl, _, _, rfl, _, _, rfl, rfl, rfl, _, rfl, _, rfl, _, _, rfl, rfl, _, rfl, ?_⟩
      by_cases c : (v : Int) ≤ (m : Int)
      · refine ifT (decide_eq_true c) ⟨_, rfl, _, s5 _ _ d4, ?_, same_upd hD (s4.trans s5), ?_⟩
        · rw [nv_len]
          have := gl i
          exact small1000 (by omega)
        · rw [upd_same, gs, if_pos (by omega), nv_append]
          rfl
      · refine ifF (decide_eq_false c) ⟨s4.trans s5, ?_⟩
        rw [gs, if_neg (by omega), List.append_nil]
        exact s5 _ _ d4
    · rintro G ⟨s4, d4⟩
      rw [nv_len, sureAll_len] at d4
      refine ⟨_, rfl, Dl, _, rfl, .inl (SqL.of d4), by show 2 ≤ sizeLine; rw [sizeLine_eq]; omega, fun z hz => ?_⟩
      have s5 := same_new (o := .lst [.int 0, .int ((nv (good n.places.length)).length : Int)]) hz
      refine ⟨_, rfl, z, Dl, _, _, rfl, rfl, upd_same, s5 _ _ d4, ?_, fun r hr => ?_⟩
      · rw [nv_len, sizeLine_eq]
        have := gl n.places.length
        show 2 + _ ≤ _
        omega
      · refine O.told hH (l := 0 :: ((good n.places.length).length : Int) :: Vbtoad.ints (good n.places.length)) ?_ ((((Kp.same s1).trans k3).trans (Kp.same (s4.trans s5))).trans (Kp.new hr)) (((t3.ext s4).ext s5).ext (same_new hr)) (Fresh.back (((Kp.same s1).trans k3).trans (Kp.same (s4.trans s5))) (Fresh.none hr)) ?_
        · rw [es]
          refine congrArg (fun z => (n, z)) ?_
          have eg : ((List.range n.places.length).filter fun d => (Vbtoad.sure n d (k : Int).toNat (p : Int).toNat (t : Int).toNat).any fun a => decide (a ≤ (m : Int).toNat)) = good n.places.length := by
            apply List.filter_congr
            intro d _
            exact within_is hH.wf d k hp (by omega) (show m < NEVER by unfold NEVER; omega)
          rw [eg]
        · unfold IntsAt
          rw [upd_same, List.map_cons, List.map_cons, ints_nv, nv_len]
          rfl
end
end SJ
end
section
set_option Elab.async false
set_option linter.all false
set_option maxRecDepth 100000
set_option maxHeartbeats 4000000
/-! The calls stands and profile. -/
namespace SJ
open PySem PySem.Spec PyProof.Rows L2 LamX
theorem stands_is {n : Vbtoad.Net} (W : WF n) {d p t m : Nat} (hp : p < n.places.length) (ht : t ≤ 100000) (hm : m ≤ 100000) : Vbtoad.stands n (Vbtoad.roadsOf n) d p t m = [3, 2, 1, 0].find? fun k => decide (sureM n d (worthsM n d k) p t ≤ m) := by
  unfold Vbtoad.stands
  apply find_congr
  intro k _
  exact within_is W d k hp (by omega) (show m < NEVER by unfold NEVER; omega)
theorem find4 {f : Nat → Bool} {i : Nat} (hi : i < 4) (no : ∀ j, j < i → f (3 - j) = false) (yes : f (3 - i) = true) : [3, 2, 1, 0].find? f = some (3 - i) := by
  match i, hi with
  | 0, _ =>
    have : f 3 = true := yes
    rw [List.find?_cons, this]
  | 1, _ =>
    have h3 : f 3 = false := no 0 (by decide)
    have : f 2 = true := yes
    rw [List.find?_cons, h3, List.find?_cons, this]
  | 2, _ =>
    have h3 : f 3 = false := no 0 (by decide)
    have h2 : f 2 = false := no 1 (by decide)
    have : f 1 = true := yes
    rw [List.find?_cons, h3, List.find?_cons, h2, List.find?_cons, this]
  | 3, _ =>
    have h3 : f 3 = false := no 0 (by decide)
    have h2 : f 2 = false := no 1 (by decide)
    have h1 : f 1 = false := no 2 (by decide)
    have : f 0 = true := yes
    rw [List.find?_cons, h3, List.find?_cons, h2, List.find?_cons, h1, List.find?_cons, this]
theorem find4_none {f : Nat → Bool} (no : ∀ j, j < 4 → f (3 - j) = false) : [3, 2, 1, 0].find? f = none := by
  have h3 : f 3 = false := no 0 (by decide)
  have h2 : f 2 = false := no 1 (by decide)
  have h1 : f 1 = false := no 2 (by decide)
  have h0 : f 0 = false := no 3 (by decide)
  rw [List.find?_cons, h3, List.find?_cons, h2, List.find?_cons, h1, List.find?_cons, h0]
  rfl
theorem sub_len : ∀ (l m : List Int), l.Nodup → (∀ x ∈ l, x ∈ m) → l.length ≤ m.length
  | [], _, _, _ => Nat.zero_le _
  | x :: l, m, nd, h => by
    rw [List.nodup_cons] at nd
    have hx := h x List.mem_cons_self
    have ih := sub_len l (m.erase x) nd.2 fun y hy => by
      have yx : y ≠ x := fun z => nd.1 (z ▸ hy)
      exact (List.mem_erase_of_ne yx).mpr (h y (List.mem_cons_of_mem _ hy))
    rw [List.length_erase_of_mem hx] at ih
    have := List.length_pos_of_mem hx
    rw [List.length_cons]
    omega
section
variable {P : Program} {w : World} {K : PySem.W.Frag} {mg : Str → Option Value} {base : Heap}
theorem sc_call_stands : FnScope ["session", "call", "numbers", "limit", "outlook", "k"] ["session", "call"] d_call_stands.scope := ⟨rfl, rfl, rfl, by decide +kernel, rfl, by decide +kernel, by decide +kernel⟩
theorem ok_call_stands (T : Fx K mg base) : FnX P w K mg base 9 "call_stands" (HSp K (d40 .stands)) := by
  obtain ⟨fd, F⟩ := F_call_stands T
  refine ⟨⟨_, fd, ["session", "call"], F.ok sc_call_stands (fun vs H Q E h => ?_) (fun cdv A outer s H vs Q E hr h => ⟨_, pss_cons (ps_set (i := 2) sc_call_stands.nd rfl (Or.inl rfl) (pe_fld (pv 1) rfl)) (pss_cons (ps_set (i := 3) sc_call_stands.nd rfl (Or.inl rfl) (pe_ix ix_list (pv 2) (pe_int) (fun _ _ => rfl))) (pss_cons (ps_expr (pe_cx (ok_need_minute T) hr (by decide) rfl (takes_of rfl rfl rfl rfl) (pa_cons (pe_ix ix_list (pv 2) (pe_int) (fun _ _ => rfl)) pa_nil))) (pss_cons (ps_expr (pe_cx (ok_need_minute T) hr (by decide) rfl (takes_of rfl rfl rfl rfl) (pa_cons (pv 3) pa_nil))) (pss_cons (ps_expr (pe_cx (ok_need_places T) hr (by decide) rfl (takes_of rfl rfl rfl rfl) (pa_cons (pe_fld (pv 0) rfl) (pa_cons (pe_slice sl_list (pv 2) (po_some (pe_int)) (po_none)) pa_nil)))) (pss_cons (ps_set (i := 4) sc_call_stands.nd rfl (Or.inl rfl) (pe_c0 (ok_outlook_to T) hr (by decide) rfl (pa_cons (pv 0) (pa_cons (pe_ix ix_list (pv 2) (pe_int) (fun _ _ => rfl)) (pa_cons (C8.pe_gc rfl (i_HIGHEST_K T)) pa_nil))))) (pss_cons (ps_for (passes_of rfl) rfl (pi_range3 (by rfl) (b_range T) (pa_cons (C8.pe_gc rfl (i_HIGHEST_K T)) (pa_cons (pe_un un_neg (pe_int)) (pa_cons (pe_un un_neg (pe_int)) pa_nil)))) (pg_name (i := 5) sc_call_stands.nd rfl (Or.inl rfl)) (pss_one (ps_if (pt_cmpR op_le (pe_c0 (ok_sure_from T) hr (by decide) rfl (pa_cons (pv 4) (pa_cons (pv 5) (pa_cons (pe_ix ix_list (pv 2) (pe_int) (fun _ _ => rfl)) (pa_cons (pe_ix ix_list (pv 2) (pe_int) (fun _ _ => rfl)) pa_nil))))) (pv 3) (nomark _)) (pss_one (ps_ret (pe_lst (pa_cons (pe_int) (pa_cons (pv 5) pa_nil))))) (pss_nil)))) (pss_one (ps_raise0 rfl (T.exc rfl (g_NothingSure T)) (takes_of rfl rfl rfl rfl) rfl)))))))), ?_⟩), g_call_stands T, F.kp, F.bindsN (fun _ _ _ _ _ _ us hl => match us, hl with | [_, _], _ => rfl)⟩⟩
  · obtain ⟨S, sa, ca, na, n, kind, nums, rows, bh, c, rfl, _⟩ := h
    rfl
  · obtain ⟨S, sa, ca, na, n, kind, nums, rows, bh, c, rfl, hH, hsa, hC, hd, O⟩ := h
    obtain ⟨t, m, p, d, rfl, rfl, rfl⟩ := d40_is hd
    obtain ⟨dc, nl, ra, xs, e1, e2, _⟩ := id hC
    obtain ⟨ds, es0⟩ := hH.se
    refine ⟨_, rfl, ca, _, dc, _, _, rfl, e1, c_Call T, n_Call_numbers T, rfl, ?_⟩
    refine ⟨_, rfl, nl, _, 1, _, rfl, rfl, SqL.of e2, atI_nat (j := 1) rfl, ?_⟩
    refine ⟨_, rfl, nl, _, 0, _, rfl, rfl, SqL.of e2, atI_nat (j := 0) rfl, t, rfl, fun z => O.no1 (step_no fun y => (stands_ok.mp y).1 z) H (Kp.refl _ _) hH.tb, fun o1 => ?_⟩
    refine ⟨_, rfl, m, rfl, fun z => O.no1 (step_no fun y => (stands_ok.mp y).2.1 z) H (Kp.refl _ _) hH.tb, fun o2 => ?_⟩
    refine ⟨_, rfl, sa, _, ds, _, _, rfl, es0, c_Session T, n_Session_net T, rfl, _, rfl, 2, rfl, nl, _, rfl, SqL.of e2, fun pl hpl => ?_⟩
    have s1 : Same H (upd H pl (.lst ([p, d].map V.int))) := same_new hpl
    refine ⟨S, na, pl, n, [p, d], rfl, hH.net.same (same_new hpl), SqL.of (upd_same (o := .lst ([p, d].map V.int))), fun z => O.no1 (step_no fun y => z (stands_ok.mp y).2.2) _ (Kp.new hpl) (hH.tb.ext (same_new hpl)), fun o3 o4 => O.no4 (step_pl_no (act_stands n t m p d) (stands_ok.mpr ⟨o1, o2, o3⟩) o4) _ (Kp.new hpl) (hH.tb.ext (same_new hpl)), fun o3 o4 => ?_⟩
    obtain ⟨t, rfl, ht⟩ := out_nat o1 (by decide)
    obtain ⟨m, rfl, hm⟩ := out_nat o2 (by decide)
    obtain ⟨p, d, rfl, rfl⟩ := pl_nat2 o3
    obtain ⟨hp, hdn⟩ := placesIn2.mp o4
    have es := step_pl_yes (act_stands n (t : Int) (m : Int) (p : Int) (d : Int)) (stands_ok.mpr ⟨o1, o2, o3⟩) o4
    have es2 : Vbtoad.step n (.stands t m p d) = (n, Vbtoad.toldOr ([3, 2, 1, 0].find? fun k => decide (sureM n d (worthsM n d k) p t ≤ m))) := by
      rw [es]
      refine congrArg (fun z => (n, Vbtoad.toldOr z)) ?_
      exact stands_is hH.wf hp (by omega) (by omega)
    have h1 := hH.same s1
    let G1 : Hp := upd H pl (.lst ([(p : Int), d].map V.int))
    have e22 : G1 nl = some (.lst ([(t : Int), m, p, d].map V.int)) := s1 _ _ e2
    refine ⟨_, rfl, _, rfl, nl, _, 3, _, rfl, rfl, SqL.of e22, atI_nat (j := 3) rfl, S, sa, na, n, d, 3, rfl, h1, hdn, Nat.le_refl _, fun o H2 k2 t2 o2 => ?_⟩
    have e23 : H2 nl = some (.lst ([(t : Int), m, p, d].map V.int)) := k2.lst e22 (by simp)
    refine ⟨_, rfl, _, rfl, 3, -1, -1, 4, rfl, RgC.neg (by decide) (by decide) (by decide) (by decide), ?_⟩
    refine for_it (walk_rangeC (lo := 3) (c := -1) (n := 4)) (fun i σ G => ∃ v, σ = [some (.ref sa), some (.ref ca), some (.ref nl), some (.int (m : Nat)), some (.ref o), v] ∧ Same H2 G ∧ ∀ j, j < i → decide (sureM n d (worthsM n d (3 - j)) p t ≤ m) = false) ⟨none, rfl, Same.refl _, fun j hj => by omega⟩ (fun _ _ _ _ _ => trivial) ?_ ?_
    · rintro i x σ G G' hi ⟨v, rfl, s3, no⟩ ⟨rfl, rfl⟩
      show gName 5 (V.int (3 + ((i : Nat) : Int) * (-1))) _ _ _
      have ei : (3 : Int) + ((i : Nat) : Int) * (-1) = ((3 - i : Nat) : Int) := by omega
      rw [ei]
      have e24 := s3 _ _ e23
      refine ⟨_, rfl, _, rfl, _, rfl, nl, _, 0, _, rfl, rfl, SqL.of e24, atI_nat (j := 0) rfl, _, rfl, nl, _, 2, _, rfl, rfl, SqL.of e24, atI_nat (j := 2) rfl, S, o, n, d, rowsTo n d 4, 3 - i, t, p, worthsM n d (3 - i), rfl, (o2.ext (Kp.same s3)).at_, rowsTo_get (by omega), hp, fun H4 s4 => ?_⟩
      refine ⟨_, rfl, _, _, rfl, rfl, _, rfl, ?_⟩
      by_cases c : ((sureM n d (worthsM n d (3 - i)) p t : Nat) : Int) ≤ ((m : Nat) : Int)
      · refine ifT (decide_eq_true c) ⟨_, rfl, by show 2 ≤ sizeLine; rw [sizeLine_eq]; omega, fun r hr => ?_⟩
        refine O.told hH (l := [0, ((3 - i : Nat) : Int)]) ?_ ((((Kp.same s1).trans k2).trans (Kp.same (s3.trans s4))).trans (Kp.new hr)) ((t2.ext (s3.trans s4)).ext (same_new hr)) (Fresh.back (((Kp.same s1).trans k2).trans (Kp.same (s3.trans s4))) (Fresh.none hr)) upd_same
        rw [es2, find4 hi no (decide_eq_true (by omega))]
        rfl
      · refine ifF (decide_eq_false c) ⟨_, rfl, s3.trans s4, fun j hj => ?_⟩
        rcases Nat.lt_or_ge j i with l | l
        · exact no j l
        · obtain rfl : j = i := by omega
          exact decide_eq_false (by omega)
    · rintro σ G ⟨v, rfl, s3, no⟩
      refine O.no7 ?_ G (((Kp.same s1).trans k2).trans (Kp.same s3)) (t2.ext s3)
      rw [es2, find4_none no]
      rfl
/-- what is told of the minutes -/
def profNums (f : Nat → Nat) (ts : List Nat) : List Nat := ts.flatMap fun t => [t, f t]
theorem profNums_len (f : Nat → Nat) : ∀ ts : List Nat, (profNums f ts).length = 2 * ts.length
  | [] => rfl
  | x :: l => by
    have ih := profNums_len f l
    unfold profNums at ih ⊢
    rw [List.flatMap_cons, List.length_append, ih]
    simp only [List.length_cons, List.length_nil]
    omega
theorem sc_call_profile : FnScope ["session", "call", "k", "place", "outlook", "minutes", "answer", "minute"] ["session", "call"] d_call_profile.scope := ⟨rfl, rfl, rfl, by decide +kernel, rfl, by decide +kernel, by decide +kernel⟩
theorem ok_call_profile (T : Fx K mg base) : FnX P w K mg base 9 "call_profile" (HSp K (d30 .profile)) := by
  obtain ⟨fd, F⟩ := F_call_profile T
  refine ⟨⟨_, fd, ["session", "call"], F.ok sc_call_profile (fun vs H Q E h => ?_) (fun cdv A outer s H vs Q E hr h => ⟨_, pss_cons (ps_set (i := 2) sc_call_profile.nd rfl (Or.inl rfl) (pe_ix ix_list (pe_fld (pv 1) rfl) (pe_int) (fun _ _ => rfl))) (pss_cons (ps_expr (pe_cx (ok_need_k T) hr (by decide) rfl (takes_of rfl rfl rfl rfl) (pa_cons (pv 2) pa_nil))) (pss_cons (ps_expr (pe_cx (ok_need_places T) hr (by decide) rfl (takes_of rfl rfl rfl rfl) (pa_cons (pe_fld (pv 0) rfl) (pa_cons (pe_slice sl_list (pe_fld (pv 1) rfl) (po_some (pe_int)) (po_none)) pa_nil)))) (pss_cons (ps_set (i := 3) sc_call_profile.nd rfl (Or.inl rfl) (pe_ix ix_list (pe_fld (pv 1) rfl) (pe_int) (fun _ _ => rfl))) (pss_cons (ps_set (i := 4) sc_call_profile.nd rfl (Or.inl rfl) (pe_c0 (ok_outlook_to T) hr (by decide) rfl (pa_cons (pv 0) (pa_cons (pe_ix ix_list (pe_fld (pv 1) rfl) (pe_int) (fun _ _ => rfl)) (pa_cons (pv 2) pa_nil))))) (pss_cons (ps_set (i := 5) sc_call_profile.nd rfl (Or.inl rfl) (pe_c0 (ok_profile_minutes T) hr (by decide) rfl (pa_cons (pv 4) (pa_cons (pv 2) (pa_cons (pv 3) pa_nil))))) (pss_cons (ps_set (i := 6) sc_call_profile.nd rfl (Or.inl rfl) (pe_lst (pa_cons (pe_int) (pa_cons (pe_callB call_len_seq (by rfl) (b_len T) (by decide +kernel) (pa_cons (pv 5) pa_nil)) pa_nil)))) (pss_cons (ps_for (passes_of rfl) rfl (pi_list (pv 5)) (pg_name (i := 7) sc_call_profile.nd rfl (Or.inl rfl)) (pss_one (ps_expr (pe_bm PySem.F.plainAttrs_list PySem.F.slot_list_extend PySem.F.type_list_extend mt_extend (pv 6) (pa_cons (pe_lst (pa_cons (pv 7) (pa_cons (pe_c0 (ok_sure_from T) hr (by decide) rfl (pa_cons (pv 4) (pa_cons (pv 2) (pa_cons (pv 7) (pa_cons (pv 3) pa_nil))))) pa_nil))) pa_nil))))) (pss_one (ps_ret (pv 6)))))))))), ?_⟩), g_call_profile T, F.kp, F.bindsN (fun _ _ _ _ _ _ us hl => match us, hl with | [_, _], _ => rfl)⟩⟩
  · obtain ⟨S, sa, ca, na, n, kind, nums, rows, bh, c, rfl, _⟩ := h
    rfl
  · obtain ⟨S, sa, ca, na, n, kind, nums, rows, bh, c, rfl, hH, hsa, hC, hd, O⟩ := h
    obtain ⟨k, p, d, rfl, rfl, rfl⟩ := d30_is hd
    obtain ⟨dc, nl, ra, xs, e1, e2, _⟩ := id hC
    obtain ⟨ds, es0⟩ := hH.se
    refine ⟨_, rfl, ca, _, dc, _, _, rfl, e1, c_Call T, n_Call_numbers T, rfl, nl, _, 0, _, rfl, rfl, SqL.of e2, atI_nat (j := 0) rfl, ?_⟩
    refine ⟨_, rfl, k, rfl, fun z => O.no1 (step_no fun y => (profile_ok.mp y).1 z) H (Kp.refl _ _) hH.tb, fun o1 => ?_⟩
    refine ⟨_, rfl, sa, _, ds, _, _, rfl, es0, c_Session T, n_Session_net T, rfl, _, rfl, ca, _, dc, _, _, rfl, e1, c_Call T, n_Call_numbers T, rfl, 1, rfl, nl, _, rfl, SqL.of e2, fun pl hpl => ?_⟩
    have s1 : Same H (upd H pl (.lst ([p, d].map V.int))) := same_new hpl
    refine ⟨S, na, pl, n, [p, d], rfl, hH.net.same (same_new hpl), SqL.of (upd_same (o := .lst ([p, d].map V.int))), fun z => O.no1 (step_no fun y => z (profile_ok.mp y).2) _ (Kp.new hpl) (hH.tb.ext (same_new hpl)), fun o3 o4 => O.no4 (step_pl_no (act_profile n k p d) (profile_ok.mpr ⟨o1, o3⟩) o4) _ (Kp.new hpl) (hH.tb.ext (same_new hpl)), fun o3 o4 => ?_⟩
    obtain ⟨k, rfl, hk⟩ := out_nat o1 (by decide)
    obtain ⟨p, d, rfl, rfl⟩ := pl_nat2 o3
    obtain ⟨hp, hdn⟩ := placesIn2.mp o4
    have es := step_pl_yes (act_profile n (k : Int) (p : Int) (d : Int)) (profile_ok.mpr ⟨o1, o3⟩) o4
    have h1 := hH.same s1
    let G1 : Hp := upd H pl (.lst ([(p : Int), d].map V.int))
    have e11 : G1 ca = _ := s1 _ _ e1
    have e22 : G1 nl = some (.lst ([(k : Int), p, d].map V.int)) := s1 _ _ e2
    refine ⟨_, rfl, ca, _, dc, _, _, rfl, e11, c_Call T, n_Call_numbers T, rfl, nl, _, 1, _, rfl, rfl, SqL.of e22, atI_nat (j := 1) rfl, ?_⟩
    refine ⟨_, rfl, _, rfl, ca, _, dc, _, _, rfl, e11, c_Call T, n_Call_numbers T, rfl, nl, _, 2, _, rfl, rfl, SqL.of e22, atI_nat (j := 2) rfl, _, rfl, S, sa, na, n, d, k, rfl, h1, hdn, by omega, fun o H2 k2 t2 o2 => ?_⟩
    refine ⟨_, rfl, _, rfl, _, rfl, S, o, n, d, rowsTo n d (k + 1), k, p, worthsM n d k, rfl, o2.at_, rowsTo_get (by omega), hp, fun ns ml H3 hs hm s3 n3 i3 => ?_⟩
    obtain ⟨ts, ets, epr⟩ := profile_is hH.wf (d := d) (k := k) hp hs (fun x => (hm x).trans (justs_mem x))
    have i3' : H3 ml = some (.lst (nv ts)) := by
      have : toldOf n d (worthsM n d k) p ns = ts.map fun (t : Nat) => (t : Int) := ets
      have i4 : H3 ml = some (.lst ((toldOf n d (worthsM n d k) p ns).map V.int)) := i3
      rw [i4, this, List.map_map]
      rfl
    have tl : ts.length ≤ 30 := by
      have l1 : (ts.map fun (t : Nat) => (t : Int)).length ≤ ns.length := by
        rw [← ets]
        exact List.length_filter_le _ _
      rw [List.length_map] at l1
      have l2 : ns.length ≤ (justs n p n.goes.length).length := by
        have nd : ns.Nodup := hs.imp fun z => by omega
        exact sub_len ns _ nd fun x hx => (hm x).mp hx
      rw [justs_len] at l2
      have := hH.wf.ng
      omega
    refine ⟨_, rfl, ml, _, rfl, .inl (SqL.of i3'), by show 2 ≤ sizeLine; rw [sizeLine_eq]; omega, fun al hal => ?_⟩
    rw [nv_len]
    have s4 : Same H3 (upd H3 al (.lst [.int 0, .int (ts.length : Int)])) := same_new hal
    refine ⟨_, rfl, ml, rfl, ⟨_, SqL.of (s4 _ _ i3')⟩, for_it (walk_list (xs := nv ts)) (fun i σ G => ∃ v, σ = [some (.ref sa), some (.ref ca), some (.int (k : Nat)), some (.int (p : Nat)), some (.ref o), some (.ref ml), some (.ref al), v] ∧ Same H3 G ∧ G al = some (.lst (nv ([0, ts.length] ++ profNums (fun t => sureM n d (worthsM n d k) p t) (ts.take i))))) ⟨none, rfl, s4, upd_same⟩ (fun i σ G _ ⟨_, _, s, _⟩ => SqL.of (s _ _ i3')) ?_ ?_⟩
    · rintro i x σ G G' hi ⟨v, rfl, s5, e5⟩ ⟨rfl, hx⟩
      obtain ⟨t, ht, rfl⟩ := nv_get hx
      refine ⟨_, rfl, .inl ⟨rfl, _, SqL.of e5⟩, _, rfl, _, rfl, _, rfl, _, rfl, _, rfl, S, o, n, d, rowsTo n d (k + 1), k, t, p, worthsM n d k, rfl, (o2.ext (Kp.same (s3.trans s5))).at_, rowsTo_get (by omega), hp, fun H6 s6 => ?_⟩
      refine ⟨by show 2 ≤ sizeLine; rw [sizeLine_eq]; omega, fun el hel => ?_⟩
      have s7 := same_new (o := .lst [.int (t : Nat), .int (sureM n d (worthsM n d k) p t : Nat)]) hel
      refine ⟨al, el, _, _, rfl, rfl, s7 _ _ (s6 _ _ e5), upd_same, ?_, ?_⟩
      · rw [nv_len, List.length_append, profNums_len, List.length_take, sizeLine_eq]
        show 2 + _ + 2 ≤ _
        omega
      · refine ⟨_, rfl, same_upd hal ((s5.trans s6).trans s7), ?_⟩
        rw [upd_same, List.take_add_one, ht]
        show _ = some (HO.lst (nv ([0, ts.length] ++ profNums _ (ts.take i ++ [t]))))
        have ea : profNums (fun t => sureM n d (worthsM n d k) p t) (ts.take i ++ [t]) = profNums (fun t => sureM n d (worthsM n d k) p t) (ts.take i) ++ [t, sureM n d (worthsM n d k) p t] := by
          unfold profNums
          rw [List.flatMap_append]
          rfl
        rw [ea, ← List.append_assoc, nv_append (_ ++ _)]
        rfl
    · rintro σ G ⟨v, rfl, s5, e5⟩
      rw [nv_len, List.take_length] at e5
      refine ⟨_, rfl, O.told hH (l := Vbtoad.ints ([0, ts.length] ++ profNums (fun t => sureM n d (worthsM n d k) p t) ts)) ?_ (((Kp.same s1).trans k2).trans (Kp.same (s3.trans s5))) (t2.ext (s3.trans s5)) (Fresh.back (((Kp.same s1).trans k2).trans (Kp.same s3)) (Fresh.none hal)) (text_ints e5)⟩
      rw [es]
      refine congrArg (fun z => (n, z)) ?_
      have epr' : Vbtoad.profile n (Vbtoad.roadsOf n) (d : Int).toNat (k : Int).toNat (p : Int).toNat = ts.map fun t => (t, sureM n d (worthsM n d k) p t) := epr
      rw [epr', List.length_map]
      show 0 :: (ts.length : Int) :: _ = 0 :: (ts.length : Int) :: Vbtoad.ints (profNums _ ts)
      congr 2
      unfold profNums Vbtoad.ints
      rw [List.flatMap_map, List.map_flatMap]
end
end SJ
end
section
set_option Elab.async false
set_option linter.all false
set_option maxRecDepth 100000
set_option maxHeartbeats 4000000
/-! One call out of the list. -/
namespace SJ
open PySem PySem.Spec PyProof.Rows L2 LamX
theorem cut_ints {l : List Int} {f p : Nat} (h1 : f ≤ p) (h2 : p ≤ l.length) : cutV (l.map V.int) (some (f : Int)) (some (p : Int)) = ((l.drop f).take (p - f)).map V.int := by
  have e1 : HT.sIx (l.map V.int).length 0 (some (f : Int)) = f := by
    rw [HT.sIx_nat, List.length_map]
    omega
  have e2 : HT.sIx (l.map V.int).length (l.map V.int).length (some (p : Int)) = p := by
    rw [HT.sIx_nat, List.length_map]
    omega
  unfold cutV
  rw [e1, e2, List.map_take, List.map_drop]
theorem shape_found {p : Int} {n k : Nat} (h : PyVbtoad.shape p = some (n, k)) : (SJ.shapes.find? fun h => h.1 == p) = some (p, some ((n : Int), (k : Int))) ∧ k ≤ 1 ∧ n ≤ 4 := by
  unfold PyVbtoad.shape at h
  by_cases e0 : p = 0
  · rw [if_pos e0] at h
    subst e0
    cases h
    exact ⟨rfl, by decide, by decide⟩
  rw [if_neg e0] at h
  by_cases e1 : p = 1
  · rw [if_pos e1] at h
    subst e1
    cases h
    exact ⟨rfl, by decide, by decide⟩
  rw [if_neg e1] at h
  by_cases e2 : p = 2
  · rw [if_pos e2] at h
    subst e2
    cases h
    exact ⟨rfl, by decide, by decide⟩
  rw [if_neg e2] at h
  by_cases e3 : p = 3
  · rw [if_pos e3] at h
    subst e3
    cases h
    exact ⟨rfl, by decide, by decide⟩
  rw [if_neg e3] at h
  by_cases e4 : p = 4
  · rw [if_pos e4] at h
    subst e4
    cases h
    exact ⟨rfl, by decide, by decide⟩
  rw [if_neg e4] at h
  by_cases e5 : p = 5
  · rw [if_pos e5] at h
    subst e5
    cases h
    exact ⟨rfl, by decide, by decide⟩
  rw [if_neg e5] at h
  by_cases e6 : p = 6
  · rw [if_pos e6] at h
    subst e6
    cases h
    exact ⟨rfl, by decide, by decide⟩
  rw [if_neg e6] at h
  by_cases e7 : p = 7
  · rw [if_pos e7] at h
    subst e7
    cases h
    exact ⟨rfl, by decide, by decide⟩
  rw [if_neg e7] at h
  by_cases e8 : p = 8
  · rw [if_pos e8] at h
    subst e8
    cases h
    exact ⟨rfl, by decide, by decide⟩
  rw [if_neg e8] at h
  by_cases e9 : p = 9
  · rw [if_pos e9] at h
    subst e9
    cases h
    exact ⟨rfl, by decide, by decide⟩
  rw [if_neg e9] at h
  by_cases e10 : p = 10
  · rw [if_pos e10] at h
    subst e10
    cases h
    exact ⟨rfl, by decide, by decide⟩
  rw [if_neg e10] at h
  by_cases e11 : p = 11
  · rw [if_pos e11] at h
    subst e11
    cases h
    exact ⟨rfl, by decide, by decide⟩
  rw [if_neg e11] at h
  by_cases e12 : p = 12
  · rw [if_pos e12] at h
    subst e12
    cases h
    exact ⟨rfl, by decide, by decide⟩
  rw [if_neg e12] at h
  by_cases e13 : p = 13
  · rw [if_pos e13] at h
    subst e13
    cases h
    exact ⟨rfl, by decide, by decide⟩
  rw [if_neg e13] at h
  by_cases e14 : p = 14
  · rw [if_pos e14] at h
    subst e14
    cases h
    exact ⟨rfl, by decide, by decide⟩
  rw [if_neg e14] at h
  by_cases e15 : p = 15
  · rw [if_pos e15] at h
    subst e15
    cases h
    exact ⟨rfl, by decide, by decide⟩
  rw [if_neg e15] at h
  by_cases e16 : p = 16
  · rw [if_pos e16] at h
    subst e16
    cases h
    exact ⟨rfl, by decide, by decide⟩
  rw [if_neg e16] at h
  by_cases e17 : p = 17
  · rw [if_pos e17] at h
    subst e17
    cases h
    exact ⟨rfl, by decide, by decide⟩
  rw [if_neg e17] at h
  cases h
theorem ints_at {l : List Int} {b : Nat} {p : Int} (h : l[b]? = some p) : atI (l.map V.int) (b : Int) = some (.int p) := atI_nat (by rw [List.getElem?_map, h]; rfl)
section
variable {P : Program} {w : World} {K : PySem.W.Frag} {mg : Str → Option Value} {base : Heap}
def sp_call_at (K : PySem.W.Frag) : Sp := fun vs H Q _ => ∃ (S : List Addr) (a : Addr) (l : List Int) (b : Nat) (c : List (List Int)) (rest : List Int), vs = [.ref a, .int (b : Nat)] ∧ Used S H ∧ SqL K H a (l.map V.int) ∧ l.length ≤ 17000 ∧ PyFlat.call PyVbtoad.shape (l.drop b) = some (c, rest) ∧
  ∀ co H1 kind nums rows (b2 : Nat), Same H H1 → CallAt K S H1 co kind nums rows (b2 : Int) → c = (kind :: nums) :: rows → rest = l.drop b2 → b < b2 → b2 ≤ l.length → Q (.ref co) H1
theorem sc_call_at : FnScope ["calls", "begin", "shape", "behind", "numbers", "rows", "first"] ["calls", "begin"] d_call_at.scope := ⟨rfl, rfl, rfl, by decide +kernel, rfl, by decide +kernel, by decide +kernel⟩
theorem ok_call_at (T : Fx K mg base) : Fn0 P w K mg base 3 "call_at" (sp_call_at K) := by
  obtain ⟨fd, F⟩ := F_call_at T
  refine ⟨⟨_, fd, ["calls", "begin"], F.ok sc_call_at (fun vs H Q E h => ?_) (fun cdv A outer s H vs Q E hr h => ⟨_, PSs.nox (pss_cons (ps_set (i := 2) sc_call_at.nd rfl (Or.inl rfl) (pe_ix ix_kint (C8.pe_gc (v := .ref (He.ga K "SHAPES")) rfl ⟨_, g_SHAPES T, rfl⟩) (pe_ix ix_list (pv 0) (pv 1) (fun _ _ => rfl)) (fun _ _ => rfl))) (pss_cons (ps_set (i := 3) sc_call_at.nd rfl (Or.inl rfl) (pe_op op_add (pe_op op_add (pv 1) (pe_int)) (pe_ix ix_tup (pv 2) (pe_int) (fun _ _ => rfl)))) (pss_cons (ps_set (i := 4) sc_call_at.nd rfl (Or.inl rfl) (pe_slice sl_list (pv 0) (po_some (pe_op op_add (pv 1) (pe_int))) (po_some (pv 3)))) (pss_cons (ps_set (i := 5) sc_call_at.nd rfl (Or.inl rfl) (pe_lst (pa_nil))) (pss_cons (ps_while PassesOwn.never (pt_cmpR op_lt (pe_callB call_len_seq (by rfl) (b_len T) (by decide +kernel) (pa_cons (pv 5) pa_nil)) (pe_ix ix_tup (pv 2) (pe_int) (fun _ _ => rfl)) (nomark _)) (pss_cons (ps_set (i := 6) sc_call_at.nd rfl (Or.inl rfl) (pe_op op_add (pv 3) (pe_int))) (pss_cons (ps_set (i := 3) sc_call_at.nd rfl (Or.inl rfl) (pe_op op_add (pv 6) (pe_ix ix_list (pv 0) (pv 3) (fun _ _ => rfl)))) (pss_one (ps_expr (pe_bm PySem.F.plainAttrs_list PySem.F.slot_list_append PySem.F.type_list_append mt_append (pv 5) (pa_cons (pe_slice sl_list (pv 0) (po_some (pv 6)) (po_some (pv 3))) pa_nil))))))) (pss_one (ps_ret (pe_k0 (ok_Call_init T) hr (by decide) rfl (pa_cons (pe_ix ix_list (pv 0) (pv 1) (fun _ _ => rfl)) (pa_cons (pv 4) (pa_cons (pv 5) (pa_cons (pv 3) pa_nil)))))))))))), ?_⟩), g_call_at T, F.kp, F.bindsN (fun _ _ _ _ _ _ us hl => match us, hl with | [_, _], _ => rfl)⟩⟩
  · obtain ⟨S, a, l, b, c, rest, rfl, _⟩ := h
    rfl
  · obtain ⟨S, a, l, b, c, rest, rfl, hU, hA, hl, hc, q⟩ := h
    obtain ⟨p, n, k, xs, ep, es, eb, er, rfl⟩ := call_parts hc
    obtain ⟨ef, hk, hn⟩ := shape_found es
    obtain ⟨ki, t, et, ht⟩ := T.shape ef
    refine ⟨_, rfl, _, rfl, a, _, (b : Int), _, rfl, rfl, hA, ints_at ep, He.ga K "SHAPES", p, .ref t, .ref t, rfl, rfl, ki, et, rfl, ?_⟩
    refine ⟨_, rfl, _, _, rfl, rfl, _, rfl, t, _, 0, _, rfl, rfl, ht H, atI_nat (j := 0) rfl, _, _, rfl, rfl, ?_⟩
    refine ⟨_, rfl, _, rfl, _, _, rfl, rfl, ((b + 1 : Nat) : Int), rfl, _, rfl, ((b + 1 + n : Nat) : Int), rfl, a, _, rfl, hA, fun nl hnl => ?_⟩
    have ec : cutV (l.map V.int) (some ((b + 1 : Nat) : Int)) (some ((b + 1 + n : Nat) : Int)) = ((l.drop (b + 1)).take n).map V.int := by
      rw [cut_ints (by omega) eb]
      congr 2
      omega
    let A1 : Hp := upd H nl (.lst (cutV (l.map V.int) (some ((b + 1 : Nat) : Int)) (some ((b + 1 + n : Nat) : Int))))
    have s1 : Same H A1 := same_new hnl
    have i1 : IntsAt A1 nl ((l.drop (b + 1)).take n) := by
      show (upd H nl _) nl = _
      rw [upd_same, ec]
    refine ⟨Nat.zero_le _, fun rl hrl => ?_⟩
    have s2 : Same A1 (upd A1 rl (.lst [])) := same_new hrl
    have hrH : H rl = none := s1.free hrl
    refine ⟨fun μ σ G => ∃ (b2 : Nat) (R ys : List (List Int)) (xr : List V) (v : Option V), σ = [some (.ref a), some (.int (b : Nat)), some (.ref t), some (.int (b2 : Nat)), some (.ref nl), some (.ref rl), v] ∧ μ = k - R.length ∧ Same A1 G ∧ G rl = some (.lst xr) ∧ Each (fun b t => IntsAt G b t ∧ b ∉ S) xr R ∧ (∀ v ∈ xr, v ≠ .ref rl) ∧ R ++ ys = xs ∧ R.length ≤ k ∧ PyFlat.rows (k - R.length) (l.drop b2) = some (ys, rest) ∧ b < b2 ∧ b2 ≤ l.length, ⟨_, b + 1 + n, [], xs, [], none, rfl, rfl, s2, upd_same, Each.nil, fun v hv => absurd hv (by simp), rfl, Nat.zero_le _, er, by omega, eb⟩, ?_⟩
    rintro μ σ G ⟨b2, R, ys, xr, v, rfl, rfl, sG, eR, hR, nR, eq, hRk, erR, hb2, hb3⟩
    refine ⟨_, rfl, rl, _, rfl, .inl (SqL.of eR), _, rfl, t, _, 1, _, rfl, rfl, ht G, atI_nat (j := 1) rfl, _, _, rfl, rfl, _, rfl, ?_⟩
    rw [hR.len]
    by_cases cc : (R.length : Int) < (k : Int)
    · refine ifT (decide_eq_true cc) ⟨fun σ' G' => ∃ (b2 : Nat) (R2 ys : List (List Int)) (xr : List V) (v : Option V), σ' = [some (.ref a), some (.int (b : Nat)), some (.ref t), some (.int (b2 : Nat)), some (.ref nl), some (.ref rl), v] ∧ k - R2.length < k - R.length ∧ Same A1 G' ∧ G' rl = some (.lst xr) ∧ Each (fun b t => IntsAt G' b t ∧ b ∉ S) xr R2 ∧ (∀ v ∈ xr, v ≠ .ref rl) ∧ R2 ++ ys = xs ∧ R2.length ≤ k ∧ PyFlat.rows (k - R2.length) (l.drop b2) = some (ys, rest) ∧ b < b2 ∧ b2 ≤ l.length, fun σ' G' ⟨b2, R2, ys, xr, v, h1, h2, h3⟩ => ⟨_, h2, b2, R2, ys, xr, v, h1, rfl, h3⟩, ?_⟩
      have ek : k - R.length = (k - R.length - 1) + 1 := by omega
      rw [ek] at erR
      obtain ⟨m, ys2, em, hm, rfl, er2⟩ := rows_step erR
      have hAG : SqL K G a (l.map V.int) := (s1.trans sG).seq hA
      refine ⟨_, rfl, _, _, rfl, rfl, ?_⟩
      refine ⟨_, rfl, _, rfl, _, rfl, a, _, (b2 : Int), _, rfl, rfl, hAG, ints_at em, _, _, rfl, rfl, ?_⟩
      refine ⟨_, rfl, .inl ⟨rfl, _, SqL.of eR⟩, _, rfl, _, rfl, ((b2 + 1 : Nat) : Int), rfl, _, rfl, ((b2 + 1 + m : Nat) : Int), rfl, a, _, rfl, hAG, fun g hg => ?_⟩
      have ec2 : cutV (l.map V.int) (some ((b2 + 1 : Nat) : Int)) (some ((b2 + 1 + m : Nat) : Int)) = ((l.drop (b2 + 1)).take m).map V.int := by
        rw [cut_ints (by omega) hm]
        congr 2
        omega
      let G1 : Hp := upd G g (.lst (cutV (l.map V.int) (some ((b2 + 1 : Nat) : Int)) (some ((b2 + 1 + m : Nat) : Int))))
      have s3 : Same G G1 := same_new hg
      have ig : IntsAt G1 g ((l.drop (b2 + 1)).take m) := by
        show (upd G g _) g = _
        rw [upd_same, ec2]
      have gr : g ≠ rl := (ne_of_none eR hg).symm
      refine ⟨rl, xr, .ref g, rfl, rfl, s3 _ _ eR, small1000 (by rw [hR.len]; omega), ?_⟩
      have off : ∀ c xs', c ≠ rl → G1 c = some (.lst xs') → (upd G1 rl (.lst (xr ++ [.ref g]))) c = some (.lst xs') := fun c xs' hc e => by
        rw [upd_ne hc]
        exact e
      refine ⟨b2 + 1 + m, R ++ [(l.drop (b2 + 1)).take m], ys2, _, _, rfl, ?_, same_upd hrl (sG.trans s3), upd_same, ?_, ?_, ?_, ?_, ?_, by omega, hm⟩
      · rw [List.length_append]
        show k - (R.length + 1) < _
        omega
      · refine Each.snoc ⟨hR.len, fun i x ex => ?_⟩ ⟨off _ _ gr ig, hU.new ((s1.trans sG).free hg)⟩
        obtain ⟨c, ec, ic⟩ := hR.at_ i x ex
        exact ⟨c, ec, off _ _ (fun z => nR _ (List.mem_of_getElem? ec) (by rw [z])) (s3 _ _ ic.1), ic.2⟩
      · intro v hv
        rcases List.mem_append.mp hv with hv | hv
        · exact nR v hv
        · rw [List.mem_singleton.mp hv]
          exact fun z => gr (V.ref.inj z)
      · rw [List.append_assoc]
        exact eq
      · rw [List.length_append]
        show R.length + 1 ≤ k
        omega
      · rw [List.length_append]
        show PyFlat.rows (k - (R.length + 1)) _ = _
        rw [show k - (R.length + 1) = k - R.length - 1 by omega]
        exact er2
    · refine ifF (decide_eq_false cc) ?_
      have e0 : k - R.length = 0 := by omega
      rw [e0] at erR
      obtain ⟨rfl, rfl⟩ := rows_zero erR
      rw [List.append_nil] at eq
      have hAG : SqL K G a (l.map V.int) := (s1.trans sG).seq hA
      refine ⟨_, rfl, _, rfl, a, _, (b : Int), _, rfl, rfl, hAG, ints_at ep, _, rfl, _, rfl, _, rfl, fun x dx hx hd nd => ?_⟩
      refine ⟨x, dx, _, _, _, _, rfl, upd_same, fun H3 e3 k3 => ⟨rfl, ?_⟩⟩
      have s4 : Same G H3 := fun c o ec => by
        have cx : c ≠ x := ne_of_none ec hx
        rw [k3 c cx, upd_ne cx, upd_ne (ne_of_none ec hd)]
        exact ec
      refine q x H3 p ((l.drop (b + 1)).take n) R b2 ((s1.trans sG).trans s4) ⟨dx, nl, rl, xr, e3, s4 _ _ (sG _ _ i1), s4 _ _ eR, hR.mono fun _ _ z => ⟨s4 _ _ z.1, z.2⟩⟩ (by rw [eq]) rfl hb2 hb3
end
end SJ
end
section
set_option Elab.async false
set_option linter.all false
set_option maxRecDepth 100000
set_option maxHeartbeats 4000000
/-! The answer of one call. -/
namespace SJ
open PySem PySem.Spec PyProof.Rows L2 LamX
section
variable {P : Program} {w : World} {K : PySem.W.Frag} {mg : Str → Option Value} {base : Heap}
theorem FnX.held {k : Nat} {x : Str} {sp : Sp} (c : FnX P w K mg base k x sp) (g : mg x = some (.ref (He.ga K x))) : HeldX P w K mg base k (He.ga K x) sp := by
  obtain ⟨f, fd, ps, h1, h2, h3, h4⟩ := c.ex
  rw [g] at h2
  cases h2
  exact ⟨fd, ps, h1, h3, h4⟩
theorem handler_of (T : Fx K mg base) {kind : Int} {nums : List Int} {rows : List (List Int)} {c : Vbtoad.Call} (h : Vbtoad.decode ((kind :: nums) :: rows) = some c) :
    ∃ (x : Str) (dec : Dec) (k : Nat), (SJ.handlers.find? fun h => h.1 == kind) = some (kind, x) ∧ HeldX P w K mg base k (He.ga K x) (HSp K dec) ∧ dec nums rows = some c ∧ k ≤ 10 := by
  generalize e : (kind :: nums) :: rows = z at h
  unfold Vbtoad.decode at h
  split at h
  · cases e
    cases h
    exact ⟨"call_net", d01 .net, 9, rfl, (ok_call_net T).held (g_call_net T), rfl, by decide⟩
  · cases e
    cases h
    exact ⟨"call_add", d01 .add, 9, rfl, (ok_call_add T).held (g_call_add T), rfl, by decide⟩
  · cases e
    cases h
    exact ⟨"call_text", d00 .text, 5, rfl, (ok_call_text T).held (g_call_text T), rfl, by decide⟩
  · cases e
    cases h
    exact ⟨"call_without", d01 .without, 5, rfl, (ok_call_without T).held (g_call_without T), rfl, by decide⟩
  · cases e
    cases h
    exact ⟨"call_shift", d11 .shift, 5, rfl, (ok_call_shift T).held (g_call_shift T), rfl, by decide⟩
  · cases e
    cases h
    exact ⟨"call_sure", d40 .sure, 10, rfl, (ok_call_sure T).held (g_call_sure T), rfl, by decide⟩
  · cases e
    cases h
    exact ⟨"call_table", d30 .table, 9, rfl, (ok_call_table T).held (g_call_table T), rfl, by decide⟩
  · cases e
    cases h
    exact ⟨"call_next", d40 .toDo, 10, rfl, (ok_call_next T).held (g_call_next T), rfl, by decide⟩
  · cases e
    cases h
    exact ⟨"call_play", d41 .play, 10, rfl, (ok_call_play T).held (g_call_play T), rfl, by decide⟩
  · cases e
    cases h
    exact ⟨"call_last", d40 .last, 10, rfl, (ok_call_last T).held (g_call_last T), rfl, by decide⟩
  · cases e
    cases h
    exact ⟨"call_profile", d30 .profile, 9, rfl, (ok_call_profile T).held (g_call_profile T), rfl, by decide⟩
  · cases e
    cases h
    exact ⟨"call_worst", d40 .worst, 10, rfl, (ok_call_worst T).held (g_call_worst T), rfl, by decide⟩
  · cases e
    cases h
    exact ⟨"call_cars", d20 .cars, 5, rfl, (ok_call_cars T).held (g_call_cars T), rfl, by decide⟩
  · cases e
    cases h
    exact ⟨"call_who", d40 .who, 9, rfl, (ok_call_who T).held (g_call_who T), rfl, by decide⟩
  · cases e
    cases h
    exact ⟨"call_stands", d40 .stands, 9, rfl, (ok_call_stands T).held (g_call_stands T), rfl, by decide⟩
  · cases e
    cases h
    exact ⟨"call_state", d00 .state, 2, rfl, (ok_call_state T).held (g_call_state T), rfl, by decide⟩
  · cases e
    cases h
    exact ⟨"call_find", d01 .find, 4, rfl, (ok_call_find T).held (g_call_find T), rfl, by decide⟩
  · cases e
    cases h
    exact ⟨"call_worths", d20 .worths, 9, rfl, (ok_call_worths T).held (g_call_worths T), rfl, by decide⟩
  · cases h
def sp_answer_of (K : PySem.W.Frag) : Sp := fun vs H Q _ => ∃ (S : List Addr) (sa ca na : Addr) (n : Vbtoad.Net) (kind : Int) (nums : List Int) (rows : List (List Int)) (bh : Int) (c : Vbtoad.Call), vs = [.ref sa, .ref ca] ∧ Hand K S H sa na n ∧ sa ∈ S ∧ CallAt K S H ca kind nums rows bh ∧ Vbtoad.decode ((kind :: nums) :: rows) = some c ∧
  ∀ p na2 H1, p ∉ S → Kp [sa] H H1 → Tabs (tabT K) H1 → SessAt K H1 sa na2 → NetAt K S H1 na2 (Vbtoad.step n c).1 → IntsAt H1 p (Vbtoad.step n c).2 → Q (.ref p) H1
theorem sc_answer_of : FnScope ["session", "call", "handler", "fault"] ["session", "call"] d_answer_of.scope := ⟨rfl, rfl, rfl, by decide +kernel, rfl, by decide +kernel, by decide +kernel⟩
theorem ok_answer_of (T : Fx K mg base) : Fn0 P w K mg base 11 "answer_of" (sp_answer_of K) := by
  obtain ⟨fd, F⟩ := F_answer_of T
  refine ⟨⟨_, fd, ["session", "call"], F.ok sc_answer_of (fun vs H Q E h => ?_) (fun cdv A outer s H vs Q E hr h => ?_), g_answer_of T, F.kp, F.bindsN (fun _ _ _ _ _ _ us hl => match us, hl with | [_, _], _ => rfl)⟩⟩
  · obtain ⟨S, sa, ca, na, n, kind, nums, rows, bh, c, rfl, _⟩ := h
    rfl
  · obtain ⟨S, sa, ca, na, n, kind, nums, rows, bh, c, rfl, hH, hsa, hC, hd, q⟩ := h
    obtain ⟨x, dec, k, hf, hx, hdec, hk⟩ := handler_of (P := P) (w := w) T hd
    obtain ⟨ki, ei⟩ := T.handler hf
    have hS : ∀ f sp, (fun f => if f = He.ga K x then some (HSp K dec) else none) f = some sp → HeldX P w K mg base k f sp := fun f sp e => by
      by_cases z : f = He.ga K x
      · have e2 : some (HSp K dec) = some sp := (if_pos z).symm.trans e
        cases e2
        rw [z]
        exact hx
      · have e2 : none = some sp := (if_neg z).symm.trans e
        cases e2
    refine ⟨_, PSs.nox (pss_cons (ps_set (i := 2) sc_answer_of.nd rfl (Or.inl rfl) (pe_ix ix_kint (C8.pe_gc (v := .ref (He.ga K "HANDLERS")) rfl ⟨_, g_HANDLERS T, rfl⟩) (pe_fld (pv 1) rfl) (fun _ _ => rfl))) (pss_one (ps_try_mix sc_answer_of.nd rfl rfl LamX.takes0 (fun W pn xe tk _ => pss_one (ps_ret (pe_callH (k := k) (i := 2) (S := fun f => if f = He.ga K x then some (HSp K dec) else none) hS hr hk rfl ?_ tk (pa_cons (pv 0) (pa_cons (pv 1) pa_nil))))) (.named (i := 3) ⟨by rfl, by decide, .inl (g_TextFault T)⟩ rfl rfl (fun e oe cls dct pn hz hf => pss_one (ps_ret (pe_lst (pa_cons pe_int (pa_cons (pe_faultF T.fault (n_TextFault_kind T) hz hf (pv 3)) (pa_cons (pe_faultF T.fault (n_TextFault_place T) hz hf (pv 3)) pa_nil)))))) (.bare ⟨by rfl, by decide, .inl (g_NotAsTold T)⟩ (fun e oe cls dct pn hz hf => pss_one (ps_ret (pe_lst (pa_cons (pe_un un_neg pe_int) pa_nil)))) (.bare ⟨by rfl, by decide, .inl (g_NoSuchPlace T)⟩ (fun e oe cls dct pn hz hf => pss_one (ps_ret (pe_lst (pa_cons (pe_un un_neg pe_int) pa_nil)))) (.bare ⟨by rfl, by decide, .inl (g_NoSuchName T)⟩ (fun e oe cls dct pn hz hf => pss_one (ps_ret (pe_lst (pa_cons (pe_un un_neg pe_int) pa_nil)))) (.bare ⟨by rfl, by decide, .inl (g_NothingSure T)⟩ (fun e oe cls dct pn hz hf => pss_one (ps_ret (pe_lst (pa_cons (pe_un un_neg pe_int) pa_nil)))) (.bare ⟨by rfl, by decide, .inl (g_OutsideTimes T)⟩ (fun e oe cls dct pn hz hf => pss_one (ps_ret (pe_lst (pa_cons (pe_un un_neg pe_int) pa_nil)))) .nil))))))))), ?_⟩
    · exact .inl rfl
    · obtain ⟨dc, nl, ra, xs, e1, e2, e3, e4⟩ := id hC
      refine ⟨_, rfl, ca, _, dc, _, _, rfl, e1, c_Call T, n_Call_kind T, rfl, He.ga K "HANDLERS", kind, .ref (He.ga K x), .ref (He.ga K x), rfl, rfl, ki, ei, rfl, ?_⟩
      refine ⟨He.ga K x, HSp K dec, rfl, if_pos rfl, _, rfl, _, rfl, S, sa, ca, na, n, kind, nums, rows, bh, c, rfl, hH, hsa, hC, hdec, ?_⟩
      -- a refusal's answer
      have no : ∀ (v : Int), Vbtoad.step n c = (n, [v]) → ∀ H1, Kp [] H H1 → Tabs (tabT K) H1 → ([V.int v] : List V).length ≤ sizeLine ∧ ∀ p, H1 p = none → Q (.ref p) (upd H1 p (.lst [.int v])) := fun v ev H1 k1 t1 => by
        refine ⟨by show 1 ≤ sizeLine; rw [sizeLine_eq]; omega, fun p hp => ?_⟩
        have h1 := (hH.ext k1 t1).same (same_new (o := .lst [.int v]) hp)
        refine q p na _ ((hH.own.ext k1).fresh (Fresh.none hp)) ((k1.mono (by simp)).trans (Kp.new hp)) h1.tb h1.se ?_ ?_
        · rw [ev]
          exact h1.net
        · rw [ev]
          exact upd_same
      refine ⟨q, fun ev H1 k1 t1 => ?_, fun ev H1 k1 t1 => ?_, fun ev H1 k1 t1 => ?_, fun ev H1 k1 t1 => ?_, fun ev H1 k1 t1 => ?_, fun e ev H1 d k1 t1 ed => ?_⟩
      · exact ⟨_, T.exm rfl rfl, fun z => absurd z (by decide), fun _ => ⟨_, T.exm rfl rfl, fun _ e he => ⟨_, rfl, no (-1) ev H1 k1 t1⟩, fun z => absurd z (by decide)⟩⟩
      · exact ⟨_, T.exm rfl rfl, fun z => absurd z (by decide), fun _ => ⟨_, T.exm rfl rfl, fun z => absurd z (by decide), fun _ => ⟨_, T.exm rfl rfl, fun _ e he => ⟨_, rfl, no (-4) ev H1 k1 t1⟩, fun z => absurd z (by decide)⟩⟩⟩
      · exact ⟨_, T.exm rfl rfl, fun z => absurd z (by decide), fun _ => ⟨_, T.exm rfl rfl, fun z => absurd z (by decide), fun _ => ⟨_, T.exm rfl rfl, fun z => absurd z (by decide), fun _ => ⟨_, T.exm rfl rfl, fun _ e he => ⟨_, rfl, no (-5) ev H1 k1 t1⟩, fun z => absurd z (by decide)⟩⟩⟩⟩
      · exact ⟨_, T.exm rfl rfl, fun z => absurd z (by decide), fun _ => ⟨_, T.exm rfl rfl, fun z => absurd z (by decide), fun _ => ⟨_, T.exm rfl rfl, fun z => absurd z (by decide), fun _ => ⟨_, T.exm rfl rfl, fun z => absurd z (by decide), fun _ => ⟨_, T.exm rfl rfl, fun _ e he => ⟨_, rfl, no (-7) ev H1 k1 t1⟩, fun z => absurd z (by decide)⟩⟩⟩⟩⟩
      · exact ⟨_, T.exm rfl rfl, fun z => absurd z (by decide), fun _ => ⟨_, T.exm rfl rfl, fun z => absurd z (by decide), fun _ => ⟨_, T.exm rfl rfl, fun z => absurd z (by decide), fun _ => ⟨_, T.exm rfl rfl, fun z => absurd z (by decide), fun _ => ⟨_, T.exm rfl rfl, fun z => absurd z (by decide), fun _ => ⟨_, T.exm rfl rfl, fun _ e he => ⟨_, rfl, no (-8) ev H1 k1 t1⟩, fun z => absurd z (by decide)⟩⟩⟩⟩⟩⟩
      · refine ⟨_, T.exm rfl rfl, fun _ x he => ⟨_, rfl, rfl, rfl, d, _, _, rfl, ed, rfl, _, rfl, rfl, rfl, d, _, _, rfl, ed, rfl, by show 3 ≤ sizeLine; rw [sizeLine_eq]; omega, fun p hp => ?_⟩, fun z => absurd z (by decide)⟩
        have h1 := (hH.ext k1 t1).same (same_new (o := .lst [.int 1, .int (e.kind : Int), .int (e.at_ : Int)]) hp)
        refine q p na _ ((hH.own.ext k1).fresh (Fresh.none hp)) ((k1.mono (by simp)).trans (Kp.new hp)) h1.tb h1.se ?_ ?_
        · rw [ev]
          exact h1.net
        · rw [ev]
          exact upd_same
end
end SJ
end
section
set_option Elab.async false
set_option linter.all false
set_option maxRecDepth 100000
set_option maxHeartbeats 4000000
/-! All the answers. -/
namespace SJ
open PySem PySem.Spec PyProof.Rows L2 LamX
theorem step_wf {n : Vbtoad.Net} (W : WF n) (c : Vbtoad.Call) : WF (Vbtoad.step n c).1 := by
  unfold Vbtoad.step
  split
  · exact W
  · cases c with
    | net t =>
      show WF (match Vbtoad.readNet Vbtoad.empty (Vbtoad.bytes t) with | .error e => (n, Vbtoad.faultRow e) | .ok m => (m, 0 :: Vbtoad.ints [m.places.length, m.cars.length, m.goes.length])).1
      cases e : Vbtoad.readNet Vbtoad.empty (Vbtoad.bytes t) with
      | error x => exact W
      | ok m => exact WF.read WF.empty e
    | add t =>
      show WF (match Vbtoad.readNet n (Vbtoad.bytes t) with | .error e => (n, Vbtoad.faultRow e) | .ok m => (m, 0 :: Vbtoad.ints [m.places.length, m.cars.length, m.goes.length])).1
      cases e : Vbtoad.readNet n (Vbtoad.bytes t) with
      | error x => exact W
      | ok m => exact WF.read W e
    | without t =>
      show WF (match Vbtoad.goAt n (Vbtoad.bytes t) with | none => (n, [-5]) | some i => ({ n with goes := n.goes.eraseIdx i }, [0])).1
      cases Vbtoad.goAt n (Vbtoad.bytes t) with
      | none => exact W
      | some i => exact W.without i
    | shift m t =>
      unfold Vbtoad.act
      dsimp only
      cases e : Vbtoad.goAt n (Vbtoad.bytes t) with
      | none => exact W
      | some i =>
        dsimp only
        cases eg : n.goes[i]? with
        | none => exact W
        | some g =>
          dsimp only
          split
          · exact W
          · rename_i o
            exact W.shift eg o
    | _ => exact W
theorem seq_kp {K : PySem.W.Frag} {H H1 : Hp} {a : Addr} {xs : List V} (h : SqL K H a xs) (k : Kp [] H H1) : SqL K H1 a xs := by
  rcases h with (e | ⟨o, e⟩) | e
  · exact .inl (.inl (k.lst e (by simp)))
  · exact .inl (.inr ⟨o, k _ _ (by simp) e fun _ z => by cases z⟩)
  · exact .inr e
theorem played_cons (n : Vbtoad.Net) (c : List (List Int)) (cs : List (List (List Int))) (d : Vbtoad.Call) (h : Vbtoad.decode c = some d) :
    PyFlat.told (PyFlat.played VbtoadNeutral.step n (c :: cs)) = (((Vbtoad.step n d).2.length : Int) :: (Vbtoad.step n d).2) ++ PyFlat.told (PyFlat.played VbtoadNeutral.step (Vbtoad.step n d).1 cs) := by
  have e : VbtoadNeutral.step n c = Vbtoad.step n d := by
    unfold VbtoadNeutral.step Vbtoad.stepRows
    rw [h]
  unfold PyFlat.told
  show List.flatMap _ ((VbtoadNeutral.step n c).2 :: PyFlat.played VbtoadNeutral.step (VbtoadNeutral.step n c).1 cs) = _
  rw [e, List.flatMap_cons]
section
variable {P : Program} {w : World} {K : PySem.W.Frag} {mg : Str → Option Value} {base : Heap}
def sp_answers (K : PySem.W.Frag) : Sp := fun vs H Q _ => ∃ (a : Addr) (ns : List Int), vs = [.ref a] ∧ Meant ns ∧ Tabs (tabT K) H ∧ SqL K H a (ns.map V.int) ∧ ∀ p H1, H1 p = some (.lst ((PyVbtoad.answers ns).map V.int)) → Q (.ref p) H1
theorem sc_answers : FnScope ["calls", "session", "told", "begin", "call", "answer"] ["calls"] d_answers.scope := ⟨rfl, rfl, rfl, by decide +kernel, rfl, by decide +kernel, by decide +kernel⟩
theorem answers_ok (T : Fx K mg base) {fd : FuncData} (F : FunD K d_answers.name d_answers.qual d_answers.params d_answers.body d_answers.scope [] [] (He.fAd K d_answers.at_) fd) : FnOk P w K mg base CX0 12 (He.fAd K d_answers.at_) fd ["calls"] (sp_answers K) := by
  refine F.ok sc_answers (fun vs H Q E h => ?_) (fun cdv A outer s H vs Q E hr h => ⟨_, PSs.nox (pss_cons (ps_set (i := 1) sc_answers.nd rfl (Or.inl rfl) (pe_k00 (ok_Session_init T) hr (by decide) rfl)) (pss_cons (ps_set (i := 2) sc_answers.nd rfl (Or.inl rfl) (pe_lst (pa_nil))) (pss_cons (ps_set (i := 3) sc_answers.nd rfl (Or.inl rfl) (pe_int)) (pss_cons (ps_while PassesOwn.never (pt_cmpR op_lt (pv 3) (pe_callB call_len_seq (by rfl) (b_len T) (by decide +kernel) (pa_cons (pv 0) pa_nil)) (nomark _)) (pss_cons (ps_set (i := 4) sc_answers.nd rfl (Or.inl rfl) (pe_c0 (ok_call_at T) hr (by decide) rfl (pa_cons (pv 0) (pa_cons (pv 3) pa_nil)))) (pss_cons (ps_set (i := 5) sc_answers.nd rfl (Or.inl rfl) (pe_c0 (ok_answer_of T) hr (by decide) rfl (pa_cons (pv 1) (pa_cons (pv 4) pa_nil)))) (pss_cons (ps_expr (pe_bm PySem.F.plainAttrs_list PySem.F.slot_list_append PySem.F.type_list_append mt_append (pv 2) (pa_cons (pe_callB call_len_seq (by rfl) (b_len T) (by decide +kernel) (pa_cons (pv 5) pa_nil)) pa_nil))) (pss_cons (ps_expr (pe_bm PySem.F.plainAttrs_list PySem.F.slot_list_extend PySem.F.type_list_extend mt_extend (pv 2) (pa_cons (pv 5) pa_nil))) (pss_one (ps_set (i := 3) sc_answers.nd rfl (Or.inl rfl) (pe_fld (pv 4) rfl)))))))) (pss_one (ps_ret (pv 2))))))), ?_⟩)
  · obtain ⟨a, ns, rfl, _⟩ := h
    rfl
  · obtain ⟨a, ns, rfl, M, hT, hA, q⟩ := h
    obtain ⟨cs, ecs, ean, lan, dcs⟩ := asked_is M.ask
    intro sa dx hx hd nd
    refine ⟨sa, dx, rfl, upd_same, fun H1 na se N1 k1 => ⟨rfl, ?_⟩⟩
    have s0 : Same H (upd (upd H dx (.own sa)) sa (.ins (He.ga K "Session") dx [])) := same_two hx hd nd
    have s1 : Same H H1 := fun b o eb => k1 b o (by rw [List.mem_singleton]; exact ne_of_none eb hx) (s0 _ _ eb)
    have t1 : Tabs (tabT K) H1 := tabs_kt (hT.ext s0) (Kt.keeps k1 (Owned.cons_ins upd_same Owned.nil))
    refine ⟨Nat.zero_le _, fun tl htl => ?_⟩
    have s2 : Same H1 (upd H1 tl (.lst [])) := same_new htl
    obtain ⟨ds, es⟩ := id se
    have stl : sa ≠ tl := ne_of_none es htl
    have htH : H tl = none := s1.free htl
    have fr : ∀ c ∈ [tl], Fresh H1 c := fun c m => by
      rw [List.mem_singleton.mp m]
      exact Fresh.none htl
    have N2 : NetAt K [tl, sa] (upd H1 tl (.lst [])) na Vbtoad.empty := (N1.fresh fr).kp (Kp.same s2)
    have st : Vbtoad.empty = VbtoadNeutral.start := rfl
    refine ⟨fun μ σ G => ∃ (b f : Nat) (rs : List (List (List Int))) (na : Addr) (n : Vbtoad.Net) (told : List Int) (v4 v5 : Option V), σ = [some (.ref a), some (.ref sa), some (.ref tl), some (.int (b : Nat)), v4, v5] ∧ μ = ns.length - b ∧ Kp [] H G ∧ Tabs (tabT K) G ∧ SessAt K G sa na ∧ NetAt K [tl, sa] G na n ∧ WF n ∧ G tl = some (.lst (told.map V.int)) ∧ PyFlat.calls PyVbtoad.shape f (ns.drop b) = some rs ∧ (∀ c ∈ rs, ∃ d, Vbtoad.decode c = some d) ∧ PyVbtoad.answers ns = told ++ PyFlat.told (PyFlat.played VbtoadNeutral.step n rs), ⟨_, 0, ns.length, cs, na, Vbtoad.empty, [], none, none, rfl, rfl, Kp.same (s1.trans s2), t1.ext s2, se.kp (Kp.same s2), N2, WF.empty, upd_same, ecs, dcs, ean⟩, ?_⟩
    rintro μ σ G ⟨b, f, rs, na2, n, told, v4, v5, rfl, rfl, kG, tG, sG, NG, W, eG, ers, drs, ea⟩
    have hAG := seq_kp hA kG
    refine ⟨_, rfl, _, rfl, a, _, rfl, .inl hAG, _, _, rfl, rfl, _, rfl, ?_⟩
    rw [List.length_map]
    have own : Owned [tl, sa] G := by
      obtain ⟨ds, es⟩ := sG
      exact Owned.cons_lst eG (Owned.cons_ins es Owned.nil)
    by_cases c : (b : Int) < (ns.length : Int)
    · refine ifT (decide_eq_true c) ⟨fun σ' G' => ∃ (b2 f : Nat) (rs : List (List (List Int))) (na : Addr) (n : Vbtoad.Net) (told : List Int) (v4 v5 : Option V), σ' = [some (.ref a), some (.ref sa), some (.ref tl), some (.int (b2 : Nat)), v4, v5] ∧ ns.length - b2 < ns.length - b ∧ Kp [] H G' ∧ Tabs (tabT K) G' ∧ SessAt K G' sa na ∧ NetAt K [tl, sa] G' na n ∧ WF n ∧ G' tl = some (.lst (told.map V.int)) ∧ PyFlat.calls PyVbtoad.shape f (ns.drop b2) = some rs ∧ (∀ c ∈ rs, ∃ d, Vbtoad.decode c = some d) ∧ PyVbtoad.answers ns = told ++ PyFlat.told (PyFlat.played VbtoadNeutral.step n rs), fun σ' G' ⟨b2, f, rs, na, n, told, v4, v5, h1, h2, h3⟩ => ⟨_, h2, b2, f, rs, na, n, told, v4, v5, h1, rfl, h3⟩, ?_⟩
      obtain ⟨g, cc, rest, ds', e1, e2, rfl⟩ := calls_step (by omega) ers
      refine ⟨_, rfl, _, rfl, [tl, sa], a, ns, b, cc, rest, rfl, own.used, hAG, M.len, e1, fun co H3 kind nums rows b2 s3 C3 ecc er hb hb2 => ?_⟩
      subst ecc er
      obtain ⟨d, ed⟩ := drs _ List.mem_cons_self
      have hH3 : Hand K [tl, sa] H3 sa na2 n := ⟨sG.kp (Kp.same s3), NG.same s3, W, own.same s3, tG.ext s3⟩
      refine ⟨_, rfl, _, rfl, [tl, sa], sa, co, na2, n, kind, nums, rows, (b2 : Int), d, rfl, hH3, by simp, C3, ed, fun p na3 H4 np k4 t4 s4 N4 i4 => ?_⟩
      rw [played_cons n _ ds' d ed] at ea
      have len : told.length + (1 + (Vbtoad.step n d).2.length) ≤ 10000000 := by
        rw [ea, List.length_append, List.length_append, List.length_cons] at lan
        omega
      have e4t : H4 tl = some (.lst (told.map V.int)) := k4.lst (s3 _ _ eG) (by simpa using Ne.symm stl)
      obtain ⟨d4, es4⟩ := id s4
      refine ⟨_, rfl, .inl ⟨rfl, _, SqL.of e4t⟩, _, rfl, p, _, rfl, .inl (SqL.of i4), tl, _, _, rfl, rfl, e4t, ?_, ?_⟩
      · rw [List.length_map, sizeLine_eq]
        omega
      · let G5 : Hp := upd H4 tl (.lst (told.map V.int ++ [.int (((Vbtoad.step n d).2.map V.int).length : Int)]))
        have e5t : G5 tl = some (.lst (told.map V.int ++ [.int (((Vbtoad.step n d).2.map V.int).length : Int)])) := upd_same
        have k5 : Kp [tl, sa] H4 G5 := Kp.upd (by simp)
        have t5 : Tabs (tabT K) G5 := tabs_kt t4 (Kt.upd_lst e4t)
        have pt : p ≠ tl := fun z => np (by rw [z]; simp)
        have i5 : G5 p = some (.lst ((Vbtoad.step n d).2.map V.int)) := (upd_ne pt).trans i4
        have es5 : G5 sa = some (.ins (He.ga K "Session") d4 [("net", .ref na3)]) := (upd_ne stl).trans es4
        refine ⟨_, rfl, .inl ⟨rfl, _, SqL.of e5t⟩, _, rfl, tl, p, _, _, rfl, rfl, e5t, i5, ?_, ?_⟩
        · rw [List.length_append, List.length_map, List.length_map, sizeLine_eq]
          show told.length + 1 + _ ≤ _
          omega
        · let G6 : Hp := upd G5 tl (.lst ((told.map V.int ++ [.int (((Vbtoad.step n d).2.map V.int).length : Int)]) ++ (Vbtoad.step n d).2.map V.int))
          have k6 : Kp [tl, sa] G5 G6 := Kp.upd (by simp)
          have t6 : Tabs (tabT K) G6 := tabs_kt t5 (Kt.upd_lst e5t)
          obtain ⟨dc, nl, ra, xs, c1, _⟩ := id C3
          have cs' : co ≠ sa := fun z => by
            obtain ⟨dz, ez⟩ := hH3.se
            rw [z, ez] at c1
            have l := congrArg List.length (HO.ins.inj (Option.some.inj c1)).2.2
            have l : 1 = 4 := l
            omega
          have ct : co ≠ tl := fun z => by
            rw [z, s3 _ _ eG] at c1
            cases c1
          have c6 : G6 co = some (.ins (He.ga K "Call") dc [("kind", .int kind), ("numbers", .ref nl), ("rows", .ref ra), ("behind", .int (b2 : Int))]) := (upd_ne ct).trans ((upd_ne ct).trans (k4.ins c1 (by simpa using cs')))
          have kk : Kp [] H G6 := fun b' o _ eb tb => by
            have b1 : b' ≠ sa := fun z => by
              rw [z, hx] at eb
              cases eb
            have b2' : b' ≠ tl := fun z => by
              rw [z, htH] at eb
              cases eb
            show (upd (upd H4 tl _) tl _) b' = _
            rw [upd_ne b2', upd_ne b2']
            exact k4 b' o (by simpa using b1) (s3 _ _ (kG b' o (by simp) eb tb)) tb
          refine ⟨_, rfl, co, _, dc, _, _, rfl, c6, c_Call T, n_Call_behind T, rfl, ?_⟩
          refine ⟨b2, g, ds', na3, (Vbtoad.step n d).1, told ++ (((Vbtoad.step n d).2.length : Int) :: (Vbtoad.step n d).2), _, _, rfl, by omega, kk, t6, ⟨d4, (upd_ne stl).trans es5⟩, (N4.kp k5).kp k6, step_wf W d, ?_, e2, fun c hc => drs c (List.mem_cons_of_mem _ hc), ?_⟩
          · show (upd G5 tl _) tl = _
            rw [upd_same, List.map_append, List.map_cons, List.length_map, List.append_assoc]
            rfl
          · rw [ea, List.append_assoc]
    · refine ifF (decide_eq_false c) ⟨_, rfl, ?_⟩
      have := calls_end (by omega) ers
      subst this
      have ea2 : PyVbtoad.answers ns = told := by
        rw [ea]
        exact List.append_nil _
      exact q tl G (by rw [ea2]; exact eG)
end
end SJ
end
section
set_option Elab.async false
set_option linter.all false
set_option maxRecDepth 100000
set_option maxHeartbeats 8000000
/-! The end. -/
namespace SJ
open PySem PySem.Spec PyProof.Rows L2 LamX
theorem tabs_start {K : PySem.W.Frag} {H : Hp} (h : ∀ p ∈ tabs K, H p.2 = some (.tbl #[])) : Tabs (tabT K) H := by
  intro p hp
  rcases List.mem_cons.mp hp with rfl | hp
  · exact TabS.nil (h (He.cT K ("latest_first", none)) (List.mem_map.mpr ⟨("latest_first", none), by decide +kernel, rfl⟩))
  · have : p = ((He.cT K ("departure_to_take", none)).2, lamQ "departure_to_take") := by simpa using hp
    subst this
    exact TabS.nil (h (He.cT K ("departure_to_take", none)) (List.mem_map.mpr ⟨("departure_to_take", none), by decide +kernel, rfl⟩))
theorem row_at (w : World) (h : Heap) (mg : Str → Option Value) (fa : Addr) (Y : hk.says w h) (G : h.Ns mainGlobals mg) (e : mg "answers" = some (.ref fa)) : RowAt 12 w h mg fa := by
  obtain ⟨K, KX, c⟩ := Y
  have fx : ∀ base : Heap, (∀ p ∈ tabs K, TabB base mg p.1 p.2) → Fx K mg base := fun base tb => ⟨c.says, c.more, c.tnd, tb, ⟨h, KX, G⟩⟩
  have tin : ∀ p ∈ tabs K, ∃ d ∈ lamDefs, p = He.cT K d := fun p hp => by
    obtain ⟨d, hd, z⟩ := List.mem_map.mp hp
    exact ⟨d, hd, z.symm⟩
  obtain ⟨fd, F⟩ := c.says.def_ 120
  have ga : mg "answers" = some (.ref (He.ga K "answers")) := He.glo_ok KX G (c.says.fact 225)
  rw [e] at ga
  cases ga
  refine ⟨K, tabs K, fd, sp_answers K, KX, fun p hp => ?_, fun p hp => ?_, fun p hp => ?_, fun s u => ?_, fun base kb gb tb => ?_, fun H a ns M hT hA Q q => ?_⟩
  · obtain ⟨d, hd, rfl⟩ := tin p hp
    exact c.empty d hd
  · obtain ⟨d, hd, rfl⟩ := tin p hp
    exact c.out d hd
  · obtain ⟨d, hd, rfl⟩ := tin p hp
    exact PySem.W.codeHd_of_K KX (c.hd d hd)
  · exact F.bindsA (ps := ["calls"]) (fun _ _ _ _ _ _ us hl => match us, hl with | [_], _ => rfl) s [u] rfl
  · exact answers_ok (fx base tb) F
  · exact ⟨a, ns, rfl, M, tabs_start hT, hA, q⟩
/-- an ask: the call state alone -/
theorem an_ask : ∃ args, R0.pre args = true ∧ PySem.W.WData.layableAll args = true := ⟨[.list [.int 15]], by decide +kernel, by decide +kernel⟩
theorem room12 : Room 12 callerA := ⟨rfl, by decide, by decide⟩
section
open PySem PySem.W PySem.Calls PyProof.Rows
theorem fin_e : opening R0.prog = plainProg R0.prog.main.scope.names := by kernel_rfl
theorem fin_f (s : Shared) : fenceModules? R0.prog s = some s := by kernel_rfl
def posOf : Stmt → Pos
  | .FunctionDef _ _ _ _ _ _ _ _ _ p => p
  | _ => ⟨0, 0, 0, 0⟩
def dAns : DefRec := ⟨"answers", defArgs s_answers, defBody s_answers, defScope s_answers, posOf s_answers⟩
theorem fin_d : defOf qv R0.name = some (dAns, []) := by kernel_rfl
theorem fin_p : R0.prog.theDef R0.name = some (dAns.params, dAns.body, dAns.scope) := by kernel_rfl
theorem fin_k : kwWritten? dAns.params.kwonlyargs dAns.params.kw_defaults = some [] := by kernel_rfl
theorem band {a b : Bool} (h1 : a = true) (h2 : b = true) : (a && b) = true := by
  rw [h1, h2]
  rfl
theorem fin_l : looksOpen R0.prog = true := by
  unfold looksOpen
  refine band (band (band (band (band ?_ ?_) ?_) ?_) ?_) ?_
  · decide +kernel
  · decide +kernel
  · decide +kernel
  · decide +kernel
  · decide +kernel
  · decide +kernel
theorem fin_w : R0.wellSaid = true := by
  unfold OpenSpec.wellSaid
  refine band (band (band (band (band fin_l ?_) ?_) ?_) ?_) ?_
  · decide +kernel
  · decide +kernel
  · decide +kernel
  · decide +kernel
  · decide +kernel
theorem bear_app : ∀ a b : List Stmt, bearImports (a ++ b) = (bearImports a || bearImports b)
  | [], b => by
    rw [List.nil_append]
    simp only [bearImports, Bool.false_or]
  | s :: a, b => by
    rw [List.cons_append]
    simp only [bearImports]
    rw [bear_app a b, Bool.or_assoc]
theorem bear_cut {l : List Stmt} (n : Nat) (h1 : bearImports (l.take n) = false) (h2 : bearImports (l.drop n) = false) : bearImports l = false := by
  have := bear_app (l.take n) (l.drop n)
  rw [List.take_append_drop, h1, h2] at this
  exact this
abbrev allS : List Stmt := behindTheImports R0.prog
theorem bear_0 : bearImports ((allS.drop 0).take 20) = false := by decide +kernel
theorem bear_20 : bearImports ((allS.drop 20).take 20) = false := by decide +kernel
theorem bear_40 : bearImports ((allS.drop 40).take 20) = false := by decide +kernel
theorem bear_60 : bearImports ((allS.drop 60).take 20) = false := by decide +kernel
theorem bear_80 : bearImports ((allS.drop 80).take 20) = false := by decide +kernel
theorem bear_100 : bearImports ((allS.drop 100).take 20) = false := by decide +kernel
theorem bear_120 : bearImports ((allS.drop 120).take 20) = false := by decide +kernel
theorem bear_140 : bearImports ((allS.drop 140).take 20) = false := by decide +kernel
theorem bear_160 : bearImports ((allS.drop 160).take 20) = false := by decide +kernel
theorem bear_end : bearImports (allS.drop 180) = false := by decide +kernel
theorem bears_160 : bearImports (allS.drop 160) = false := bear_cut 20 bear_160 (by rw [List.drop_drop]; exact bear_end)
theorem bears_140 : bearImports (allS.drop 140) = false := bear_cut 20 bear_140 (by rw [List.drop_drop]; exact bears_160)
theorem bears_120 : bearImports (allS.drop 120) = false := bear_cut 20 bear_120 (by rw [List.drop_drop]; exact bears_140)
theorem bears_100 : bearImports (allS.drop 100) = false := bear_cut 20 bear_100 (by rw [List.drop_drop]; exact bears_120)
theorem bears_80 : bearImports (allS.drop 80) = false := bear_cut 20 bear_80 (by rw [List.drop_drop]; exact bears_100)
theorem bears_60 : bearImports (allS.drop 60) = false := bear_cut 20 bear_60 (by rw [List.drop_drop]; exact bears_80)
theorem bears_40 : bearImports (allS.drop 40) = false := bear_cut 20 bear_40 (by rw [List.drop_drop]; exact bears_60)
theorem bears_20 : bearImports (allS.drop 20) = false := bear_cut 20 bear_20 (by rw [List.drop_drop]; exact bears_40)
theorem bears_0 : bearImports (allS.drop 0) = false := bear_cut 20 bear_0 (by rw [List.drop_drop]; exact bears_20)
theorem fin_o : (chainsOk qv && opensWell R0.prog) = true := by
  have h1 : chainsOk qv = true := by decide +kernel
  have h2 : (opening R0.prog).tameTopW = true := by decide +kernel
  have h3 : bearImports (behindTheImports R0.prog) = false := bears_0
  unfold opensWell
  rw [h1, h2, h3]
  rfl
theorem fin_b : R0.prog.bare := ⟨by kernel_rfl, by kernel_rfl, by kernel_rfl, by kernel_rfl, by kernel_rfl, by decide +kernel⟩
theorem fin_s : ∀ as, R0.pre as = true → WShape.hasAll [] as (R0.args.map Codec.shape) = true := os_shapes
theorem fin_c : WalkOS qv names (XL qv []) hk.says R0 dAns [] fun f vs => PySem.call f vs := walk_row (k := 12) fin_w room12 fun w mg fa h Y G e => row_at w h mg fa Y G e
end
end SJ
theorem PySem.Challenge.cw_surejourney_s01_answers_holds : PySem.Challenge.rw_surejourney_s01_answers.Holds :=
  HandSHeadRun.head_spec (q := SJ.qv) (H := SJ.hk) (ob := SJ.ob) (M := 12000) (loose := SJ.names) (d := SJ.dAns) (kwd := []) SJ.ob_eq SJ.fin_e SJ.fin_f SJ.run SJ.fin_d SJ.fin_p SJ.fin_k SJ.fin_s SJ.fin_w SJ.fin_o SJ.fin_b SJ.an_ask SJ.fin_c
end
