/- Layer 16, part S. -/
import Derived.Test.YtcgndnpnnfjgpaaFloQ
namespace Go.Proofs.Ytcgndnpnnfjgpaa
open Go.RowKit Go.Shelf

theorem row6_0 : (ops6[0]?).map shape = some (.load 32 (.tmp 9), some 66, none) := by kernel_rfl
theorem row6_1 : (ops6[1]?).map shape = some (.load 32 (.tmp 10), some 67, none) := by kernel_rfl
theorem row6_2 : (ops6[2]?).map shape = some (.call { callee := .value (.func 13), args := #[.tmp 66, .tmp 67], argTypes := #[32, 32] }, some 68, none) := by kernel_rfl
theorem w6_2_0 : Waits 2 0 := waits_of (by kernel_rfl)
theorem w6_2_1 : Waits 2 1 := waits_of (by kernel_rfl)
theorem row6_3 : (ops6[3]?).map shape = some (.move (.tmp 12), some 69, none) := by kernel_rfl
theorem row6_4 : (ops6[4]?).map shape = some (.move (.tmp 14), some 70, none) := by kernel_rfl
theorem row6_5 : (ops6[5]?).map shape = some (.binOp .add 3 (.tmp 69) (.tmp 70) 3, some 71, none) := by kernel_rfl
theorem w6_5_3 : Waits 5 3 := waits_of (by kernel_rfl)
theorem w6_5_4 : Waits 5 4 := waits_of (by kernel_rfl)
theorem row6_6 : (ops6[6]?).map shape = some (.move (.tmp 13), some 72, none) := by kernel_rfl
theorem row6_7 : (ops6[7]?).map shape = some (.move (.tmp 15), some 73, none) := by kernel_rfl
theorem row6_8 : (ops6[8]?).map shape = some (.binOp .add 3 (.tmp 72) (.tmp 73) 3, some 74, none) := by kernel_rfl
theorem w6_8_6 : Waits 8 6 := waits_of (by kernel_rfl)
theorem w6_8_7 : Waits 8 7 := waits_of (by kernel_rfl)
theorem row6_9 : (ops6[9]?).map shape = some (.call { callee := .value (.func 39), args := #[.tmp 71, .tmp 74], argTypes := #[3, 3] }, some 75, none) := by kernel_rfl
theorem w6_9_5 : Waits 9 5 := waits_of (by kernel_rfl)
theorem w6_9_8 : Waits 9 8 := waits_of (by kernel_rfl)
theorem row6_10 : (ops6[10]?).map shape = some (.call { callee := .value (.func 41), args := #[.tmp 68, .tmp 75], argTypes := #[32, 32] }, some 76, none) := by kernel_rfl
theorem w6_10_2 : Waits 10 2 := waits_of (by kernel_rfl)
theorem w6_10_9 : Waits 10 9 := waits_of (by kernel_rfl)
theorem row6_11 : (ops6[11]?).map shape = some (.move (.tmp 76), some 77, none) := by kernel_rfl
theorem w6_11_10 : Waits 11 10 := waits_of (by kernel_rfl)
theorem row6_12 : (ops6[12]?).map shape = some (.load 32 (.tmp 9), some 78, some (11, true)) := by kernel_rfl
theorem w6_12_11 : Waits 12 11 := waits_of (by kernel_rfl)
theorem row6_13 : (ops6[13]?).map shape = some (.load 32 (.tmp 10), some 79, some (11, true)) := by kernel_rfl
theorem w6_13_11 : Waits 13 11 := waits_of (by kernel_rfl)
theorem row6_14 : (ops6[14]?).map shape = some (.call { callee := .value (.func 14), args := #[.tmp 78, .tmp 79], argTypes := #[32, 32] }, some 80, some (11, true)) := by kernel_rfl
theorem w6_14_11 : Waits 14 11 := waits_of (by kernel_rfl)
theorem w6_14_12 : Waits 14 12 := waits_of (by kernel_rfl)
theorem w6_14_13 : Waits 14 13 := waits_of (by kernel_rfl)
theorem row6_15 : (ops6[15]?).map shape = some (.move (.tmp 12), some 81, some (11, true)) := by kernel_rfl
theorem w6_15_11 : Waits 15 11 := waits_of (by kernel_rfl)
theorem row6_16 : (ops6[16]?).map shape = some (.move (.tmp 14), some 82, some (11, true)) := by kernel_rfl
theorem w6_16_11 : Waits 16 11 := waits_of (by kernel_rfl)
theorem row6_17 : (ops6[17]?).map shape = some (.binOp .sub 3 (.tmp 81) (.tmp 82) 3, some 83, some (11, true)) := by kernel_rfl
theorem w6_17_11 : Waits 17 11 := waits_of (by kernel_rfl)
theorem w6_17_15 : Waits 17 15 := waits_of (by kernel_rfl)
theorem w6_17_16 : Waits 17 16 := waits_of (by kernel_rfl)
theorem row6_18 : (ops6[18]?).map shape = some (.move (.tmp 13), some 84, some (11, true)) := by kernel_rfl
theorem w6_18_11 : Waits 18 11 := waits_of (by kernel_rfl)
theorem row6_19 : (ops6[19]?).map shape = some (.move (.tmp 15), some 85, some (11, true)) := by kernel_rfl
theorem w6_19_11 : Waits 19 11 := waits_of (by kernel_rfl)
theorem row6_20 : (ops6[20]?).map shape = some (.binOp .sub 3 (.tmp 84) (.tmp 85) 3, some 86, some (11, true)) := by kernel_rfl
theorem w6_20_11 : Waits 20 11 := waits_of (by kernel_rfl)
theorem w6_20_18 : Waits 20 18 := waits_of (by kernel_rfl)
theorem w6_20_19 : Waits 20 19 := waits_of (by kernel_rfl)
theorem row6_21 : (ops6[21]?).map shape = some (.call { callee := .value (.func 39), args := #[.tmp 83, .tmp 86], argTypes := #[3, 3] }, some 87, some (11, true)) := by kernel_rfl
theorem w6_21_11 : Waits 21 11 := waits_of (by kernel_rfl)
theorem w6_21_17 : Waits 21 17 := waits_of (by kernel_rfl)
theorem w6_21_20 : Waits 21 20 := waits_of (by kernel_rfl)
theorem row6_22 : (ops6[22]?).map shape = some (.call { callee := .value (.func 41), args := #[.tmp 80, .tmp 87], argTypes := #[32, 32] }, some 88, some (11, true)) := by kernel_rfl
theorem w6_22_11 : Waits 22 11 := waits_of (by kernel_rfl)
theorem w6_22_14 : Waits 22 14 := waits_of (by kernel_rfl)
theorem w6_22_21 : Waits 22 21 := waits_of (by kernel_rfl)
theorem row6_23 : (ops6[23]?).map shape = some (.pick (.tmp 77) (.tmp 88) (.const (.bool false)), some 89, none) := by kernel_rfl
theorem w6_23_11 : Waits 23 11 := waits_of (by kernel_rfl)
theorem w6_23_22 : Waits 23 22 := waits_of (by kernel_rfl)
theorem row6_24 : (ops6[24]?).map shape = some (.move (.tmp 89), some 90, none) := by kernel_rfl
theorem w6_24_23 : Waits 24 23 := waits_of (by kernel_rfl)
theorem row6_25 : (ops6[25]?).map shape = some (.load 32 (.tmp 9), some 91, some (24, true)) := by kernel_rfl
theorem w6_25_24 : Waits 25 24 := waits_of (by kernel_rfl)
theorem row6_26 : (ops6[26]?).map shape = some (.load 32 (.tmp 10), some 92, some (24, true)) := by kernel_rfl
theorem w6_26_24 : Waits 26 24 := waits_of (by kernel_rfl)
theorem row6_27 : (ops6[27]?).map shape = some (.call { callee := .value (.func 15), args := #[.tmp 91, .tmp 92], argTypes := #[32, 32] }, some 93, some (24, true)) := by kernel_rfl
theorem w6_27_24 : Waits 27 24 := waits_of (by kernel_rfl)
theorem w6_27_25 : Waits 27 25 := waits_of (by kernel_rfl)
theorem w6_27_26 : Waits 27 26 := waits_of (by kernel_rfl)
theorem row6_28 : (ops6[28]?).map shape = some (.move (.tmp 12), some 94, some (24, true)) := by kernel_rfl
theorem w6_28_24 : Waits 28 24 := waits_of (by kernel_rfl)
theorem row6_29 : (ops6[29]?).map shape = some (.move (.tmp 14), some 95, some (24, true)) := by kernel_rfl
theorem w6_29_24 : Waits 29 24 := waits_of (by kernel_rfl)
theorem row6_30 : (ops6[30]?).map shape = some (.binOp .mul 3 (.tmp 94) (.tmp 95) 3, some 96, some (24, true)) := by kernel_rfl
theorem w6_30_24 : Waits 30 24 := waits_of (by kernel_rfl)
theorem w6_30_28 : Waits 30 28 := waits_of (by kernel_rfl)
theorem w6_30_29 : Waits 30 29 := waits_of (by kernel_rfl)
theorem row6_31 : (ops6[31]?).map shape = some (.move (.tmp 13), some 97, some (24, true)) := by kernel_rfl
theorem w6_31_24 : Waits 31 24 := waits_of (by kernel_rfl)
theorem row6_32 : (ops6[32]?).map shape = some (.move (.tmp 15), some 98, some (24, true)) := by kernel_rfl
theorem w6_32_24 : Waits 32 24 := waits_of (by kernel_rfl)
theorem row6_33 : (ops6[33]?).map shape = some (.binOp .mul 3 (.tmp 97) (.tmp 98) 3, some 99, some (24, true)) := by kernel_rfl
theorem w6_33_24 : Waits 33 24 := waits_of (by kernel_rfl)
theorem w6_33_31 : Waits 33 31 := waits_of (by kernel_rfl)
theorem w6_33_32 : Waits 33 32 := waits_of (by kernel_rfl)
theorem row6_34 : (ops6[34]?).map shape = some (.binOp .sub 3 (.tmp 96) (.tmp 99) 3, some 100, some (24, true)) := by kernel_rfl
theorem w6_34_24 : Waits 34 24 := waits_of (by kernel_rfl)
theorem w6_34_30 : Waits 34 30 := waits_of (by kernel_rfl)
theorem w6_34_33 : Waits 34 33 := waits_of (by kernel_rfl)
theorem row6_35 : (ops6[35]?).map shape = some (.move (.tmp 12), some 101, some (24, true)) := by kernel_rfl
theorem w6_35_24 : Waits 35 24 := waits_of (by kernel_rfl)
theorem row6_36 : (ops6[36]?).map shape = some (.move (.tmp 15), some 102, some (24, true)) := by kernel_rfl
theorem w6_36_24 : Waits 36 24 := waits_of (by kernel_rfl)
theorem row6_37 : (ops6[37]?).map shape = some (.binOp .mul 3 (.tmp 101) (.tmp 102) 3, some 103, some (24, true)) := by kernel_rfl
theorem w6_37_24 : Waits 37 24 := waits_of (by kernel_rfl)
theorem w6_37_35 : Waits 37 35 := waits_of (by kernel_rfl)
theorem w6_37_36 : Waits 37 36 := waits_of (by kernel_rfl)
theorem row6_38 : (ops6[38]?).map shape = some (.move (.tmp 13), some 104, some (24, true)) := by kernel_rfl
theorem w6_38_24 : Waits 38 24 := waits_of (by kernel_rfl)
theorem row6_39 : (ops6[39]?).map shape = some (.move (.tmp 14), some 105, some (24, true)) := by kernel_rfl
theorem w6_39_24 : Waits 39 24 := waits_of (by kernel_rfl)
theorem row6_40 : (ops6[40]?).map shape = some (.binOp .mul 3 (.tmp 104) (.tmp 105) 3, some 106, some (24, true)) := by kernel_rfl
theorem w6_40_24 : Waits 40 24 := waits_of (by kernel_rfl)
theorem w6_40_38 : Waits 40 38 := waits_of (by kernel_rfl)
theorem w6_40_39 : Waits 40 39 := waits_of (by kernel_rfl)
theorem row6_41 : (ops6[41]?).map shape = some (.binOp .add 3 (.tmp 103) (.tmp 106) 3, some 107, some (24, true)) := by kernel_rfl
theorem w6_41_24 : Waits 41 24 := waits_of (by kernel_rfl)
theorem w6_41_37 : Waits 41 37 := waits_of (by kernel_rfl)
theorem w6_41_40 : Waits 41 40 := waits_of (by kernel_rfl)
theorem row6_42 : (ops6[42]?).map shape = some (.call { callee := .value (.func 39), args := #[.tmp 100, .tmp 107], argTypes := #[3, 3] }, some 108, some (24, true)) := by kernel_rfl
theorem w6_42_24 : Waits 42 24 := waits_of (by kernel_rfl)
theorem w6_42_34 : Waits 42 34 := waits_of (by kernel_rfl)
theorem w6_42_41 : Waits 42 41 := waits_of (by kernel_rfl)
theorem row6_43 : (ops6[43]?).map shape = some (.call { callee := .value (.func 41), args := #[.tmp 93, .tmp 108], argTypes := #[32, 32] }, some 109, some (24, true)) := by kernel_rfl
theorem w6_43_24 : Waits 43 24 := waits_of (by kernel_rfl)
theorem w6_43_27 : Waits 43 27 := waits_of (by kernel_rfl)
theorem w6_43_42 : Waits 43 42 := waits_of (by kernel_rfl)
theorem row6_44 : (ops6[44]?).map shape = some (.pick (.tmp 90) (.tmp 109) (.const (.bool false)), some 110, none) := by kernel_rfl
theorem w6_44_24 : Waits 44 24 := waits_of (by kernel_rfl)
theorem w6_44_43 : Waits 44 43 := waits_of (by kernel_rfl)
theorem row6_45 : (ops6[45]?).map shape = some (.move (.tmp 110), some 111, none) := by kernel_rfl
theorem w6_45_44 : Waits 45 44 := waits_of (by kernel_rfl)
theorem row6_46 : (ops6[46]?).map shape = some (.load 32 (.tmp 9), some 112, some (45, true)) := by kernel_rfl
theorem w6_46_45 : Waits 46 45 := waits_of (by kernel_rfl)
theorem row6_47 : (ops6[47]?).map shape = some (.load 32 (.tmp 10), some 113, some (45, true)) := by kernel_rfl
theorem w6_47_45 : Waits 47 45 := waits_of (by kernel_rfl)
theorem row6_48 : (ops6[48]?).map shape = some (.call { callee := .value (.func 13), args := #[.tmp 112, .tmp 113], argTypes := #[32, 32] }, some 114, some (45, true)) := by kernel_rfl
theorem w6_48_45 : Waits 48 45 := waits_of (by kernel_rfl)
theorem w6_48_46 : Waits 48 46 := waits_of (by kernel_rfl)
theorem w6_48_47 : Waits 48 47 := waits_of (by kernel_rfl)
theorem row6_49 : (ops6[49]?).map shape = some (.load 32 (.tmp 11), some 115, some (45, true)) := by kernel_rfl
theorem w6_49_45 : Waits 49 45 := waits_of (by kernel_rfl)
theorem row6_50 : (ops6[50]?).map shape = some (.call { callee := .value (.func 13), args := #[.tmp 114, .tmp 115], argTypes := #[32, 32] }, some 116, some (45, true)) := by kernel_rfl
theorem w6_50_45 : Waits 50 45 := waits_of (by kernel_rfl)
theorem w6_50_48 : Waits 50 48 := waits_of (by kernel_rfl)
theorem w6_50_49 : Waits 50 49 := waits_of (by kernel_rfl)
theorem row6_51 : (ops6[51]?).map shape = some (.load 32 (.tmp 9), some 117, some (45, true)) := by kernel_rfl
theorem w6_51_45 : Waits 51 45 := waits_of (by kernel_rfl)
theorem row6_52 : (ops6[52]?).map shape = some (.load 32 (.tmp 10), some 118, some (45, true)) := by kernel_rfl
theorem w6_52_45 : Waits 52 45 := waits_of (by kernel_rfl)
theorem row6_53 : (ops6[53]?).map shape = some (.load 32 (.tmp 11), some 119, some (45, true)) := by kernel_rfl
theorem w6_53_45 : Waits 53 45 := waits_of (by kernel_rfl)
theorem row6_54 : (ops6[54]?).map shape = some (.call { callee := .value (.func 13), args := #[.tmp 118, .tmp 119], argTypes := #[32, 32] }, some 120, some (45, true)) := by kernel_rfl
theorem w6_54_45 : Waits 54 45 := waits_of (by kernel_rfl)
theorem w6_54_52 : Waits 54 52 := waits_of (by kernel_rfl)
theorem w6_54_53 : Waits 54 53 := waits_of (by kernel_rfl)
theorem row6_55 : (ops6[55]?).map shape = some (.call { callee := .value (.func 13), args := #[.tmp 117, .tmp 120], argTypes := #[32, 32] }, some 121, some (45, true)) := by kernel_rfl
theorem w6_55_45 : Waits 55 45 := waits_of (by kernel_rfl)
theorem w6_55_51 : Waits 55 51 := waits_of (by kernel_rfl)
theorem w6_55_54 : Waits 55 54 := waits_of (by kernel_rfl)
theorem row6_56 : (ops6[56]?).map shape = some (.call { callee := .value (.func 41), args := #[.tmp 116, .tmp 121], argTypes := #[32, 32] }, some 122, some (45, true)) := by kernel_rfl
theorem w6_56_45 : Waits 56 45 := waits_of (by kernel_rfl)
theorem w6_56_50 : Waits 56 50 := waits_of (by kernel_rfl)
theorem w6_56_55 : Waits 56 55 := waits_of (by kernel_rfl)
theorem row6_57 : (ops6[57]?).map shape = some (.pick (.tmp 111) (.tmp 122) (.const (.bool false)), some 123, none) := by kernel_rfl
theorem w6_57_45 : Waits 57 45 := waits_of (by kernel_rfl)
theorem w6_57_56 : Waits 57 56 := waits_of (by kernel_rfl)
theorem row6_58 : (ops6[58]?).map shape = some (.move (.tmp 123), some 124, none) := by kernel_rfl
theorem w6_58_57 : Waits 58 57 := waits_of (by kernel_rfl)
theorem row6_59 : (ops6[59]?).map shape = some (.load 32 (.tmp 9), some 125, some (58, true)) := by kernel_rfl
theorem w6_59_58 : Waits 59 58 := waits_of (by kernel_rfl)
theorem row6_60 : (ops6[60]?).map shape = some (.load 32 (.tmp 10), some 126, some (58, true)) := by kernel_rfl
theorem w6_60_58 : Waits 60 58 := waits_of (by kernel_rfl)
theorem row6_61 : (ops6[61]?).map shape = some (.load 32 (.tmp 11), some 127, some (58, true)) := by kernel_rfl
theorem w6_61_58 : Waits 61 58 := waits_of (by kernel_rfl)
theorem row6_62 : (ops6[62]?).map shape = some (.call { callee := .value (.func 13), args := #[.tmp 126, .tmp 127], argTypes := #[32, 32] }, some 128, some (58, true)) := by kernel_rfl
theorem w6_62_58 : Waits 62 58 := waits_of (by kernel_rfl)
theorem w6_62_60 : Waits 62 60 := waits_of (by kernel_rfl)
theorem w6_62_61 : Waits 62 61 := waits_of (by kernel_rfl)
theorem row6_63 : (ops6[63]?).map shape = some (.call { callee := .value (.func 15), args := #[.tmp 125, .tmp 128], argTypes := #[32, 32] }, some 129, some (58, true)) := by kernel_rfl
theorem w6_63_58 : Waits 63 58 := waits_of (by kernel_rfl)
theorem w6_63_59 : Waits 63 59 := waits_of (by kernel_rfl)
theorem w6_63_62 : Waits 63 62 := waits_of (by kernel_rfl)
theorem row6_64 : (ops6[64]?).map shape = some (.load 32 (.tmp 9), some 130, some (58, true)) := by kernel_rfl
theorem w6_64_58 : Waits 64 58 := waits_of (by kernel_rfl)
theorem row6_65 : (ops6[65]?).map shape = some (.load 32 (.tmp 10), some 131, some (58, true)) := by kernel_rfl
theorem w6_65_58 : Waits 65 58 := waits_of (by kernel_rfl)
theorem row6_66 : (ops6[66]?).map shape = some (.call { callee := .value (.func 15), args := #[.tmp 130, .tmp 131], argTypes := #[32, 32] }, some 132, some (58, true)) := by kernel_rfl
theorem w6_66_58 : Waits 66 58 := waits_of (by kernel_rfl)
theorem w6_66_64 : Waits 66 64 := waits_of (by kernel_rfl)
theorem w6_66_65 : Waits 66 65 := waits_of (by kernel_rfl)
theorem row6_67 : (ops6[67]?).map shape = some (.load 32 (.tmp 9), some 133, some (58, true)) := by kernel_rfl
theorem w6_67_58 : Waits 67 58 := waits_of (by kernel_rfl)
theorem row6_68 : (ops6[68]?).map shape = some (.load 32 (.tmp 11), some 134, some (58, true)) := by kernel_rfl
theorem w6_68_58 : Waits 68 58 := waits_of (by kernel_rfl)
theorem row6_69 : (ops6[69]?).map shape = some (.call { callee := .value (.func 15), args := #[.tmp 133, .tmp 134], argTypes := #[32, 32] }, some 135, some (58, true)) := by kernel_rfl
theorem w6_69_58 : Waits 69 58 := waits_of (by kernel_rfl)
theorem w6_69_67 : Waits 69 67 := waits_of (by kernel_rfl)
theorem w6_69_68 : Waits 69 68 := waits_of (by kernel_rfl)
theorem row6_70 : (ops6[70]?).map shape = some (.call { callee := .value (.func 13), args := #[.tmp 132, .tmp 135], argTypes := #[32, 32] }, some 136, some (58, true)) := by kernel_rfl
theorem w6_70_58 : Waits 70 58 := waits_of (by kernel_rfl)
theorem w6_70_66 : Waits 70 66 := waits_of (by kernel_rfl)
theorem w6_70_69 : Waits 70 69 := waits_of (by kernel_rfl)
theorem row6_71 : (ops6[71]?).map shape = some (.call { callee := .value (.func 41), args := #[.tmp 129, .tmp 136], argTypes := #[32, 32] }, some 137, some (58, true)) := by kernel_rfl
theorem w6_71_58 : Waits 71 58 := waits_of (by kernel_rfl)
theorem w6_71_63 : Waits 71 63 := waits_of (by kernel_rfl)
theorem w6_71_70 : Waits 71 70 := waits_of (by kernel_rfl)
theorem row6_72 : (ops6[72]?).map shape = some (.pick (.tmp 124) (.tmp 137) (.const (.bool false)), some 138, none) := by kernel_rfl
theorem w6_72_58 : Waits 72 58 := waits_of (by kernel_rfl)
theorem w6_72_71 : Waits 72 71 := waits_of (by kernel_rfl)
theorem row6_73 : (ops6[73]?).map shape = some (.move (.tmp 138), some 139, none) := by kernel_rfl
theorem w6_73_72 : Waits 73 72 := waits_of (by kernel_rfl)
theorem row6_74 : (ops6[74]?).map shape = some (.move (.tmp 19), some 140, some (73, true)) := by kernel_rfl
theorem w6_74_73 : Waits 74 73 := waits_of (by kernel_rfl)
theorem row6_75 : (ops6[75]?).map shape = some (.binOp .eql 29 (.tmp 140) (.const (.float .f32 0)) 29, some 141, some (73, true)) := by kernel_rfl
theorem w6_75_73 : Waits 75 73 := waits_of (by kernel_rfl)
theorem w6_75_74 : Waits 75 74 := waits_of (by kernel_rfl)
theorem row6_76 : (ops6[76]?).map shape = some (.pick (.tmp 139) (.tmp 141) (.const (.bool false)), some 142, none) := by kernel_rfl
theorem w6_76_73 : Waits 76 73 := waits_of (by kernel_rfl)
theorem w6_76_75 : Waits 76 75 := waits_of (by kernel_rfl)
theorem row6_77 : (ops6[77]?).map shape = some (.move (.tmp 142), some 143, none) := by kernel_rfl
theorem w6_77_76 : Waits 77 76 := waits_of (by kernel_rfl)
theorem row6_78 : (ops6[78]?).map shape = some (.load 32 (.tmp 17), some 144, some (77, true)) := by kernel_rfl
theorem w6_78_77 : Waits 78 77 := waits_of (by kernel_rfl)
theorem row6_79 : (ops6[79]?).map shape = some (.move (.tmp 12), some 145, some (77, true)) := by kernel_rfl
theorem w6_79_77 : Waits 79 77 := waits_of (by kernel_rfl)
theorem row6_80 : (ops6[80]?).map shape = some (.move (.tmp 12), some 146, some (77, true)) := by kernel_rfl
theorem w6_80_77 : Waits 80 77 := waits_of (by kernel_rfl)
theorem row6_81 : (ops6[81]?).map shape = some (.binOp .mul 3 (.tmp 145) (.tmp 146) 3, some 147, some (77, true)) := by kernel_rfl
theorem w6_81_77 : Waits 81 77 := waits_of (by kernel_rfl)
theorem w6_81_79 : Waits 81 79 := waits_of (by kernel_rfl)
theorem w6_81_80 : Waits 81 80 := waits_of (by kernel_rfl)
theorem row6_82 : (ops6[82]?).map shape = some (.move (.tmp 13), some 148, some (77, true)) := by kernel_rfl
theorem w6_82_77 : Waits 82 77 := waits_of (by kernel_rfl)
theorem row6_83 : (ops6[83]?).map shape = some (.move (.tmp 13), some 149, some (77, true)) := by kernel_rfl
theorem w6_83_77 : Waits 83 77 := waits_of (by kernel_rfl)
theorem row6_84 : (ops6[84]?).map shape = some (.binOp .mul 3 (.tmp 148) (.tmp 149) 3, some 150, some (77, true)) := by kernel_rfl
theorem w6_84_77 : Waits 84 77 := waits_of (by kernel_rfl)
theorem w6_84_82 : Waits 84 82 := waits_of (by kernel_rfl)
theorem w6_84_83 : Waits 84 83 := waits_of (by kernel_rfl)
theorem row6_85 : (ops6[85]?).map shape = some (.binOp .add 3 (.tmp 147) (.tmp 150) 3, some 151, some (77, true)) := by kernel_rfl
theorem w6_85_77 : Waits 85 77 := waits_of (by kernel_rfl)
theorem w6_85_81 : Waits 85 81 := waits_of (by kernel_rfl)
theorem w6_85_84 : Waits 85 84 := waits_of (by kernel_rfl)
theorem row6_86 : (ops6[86]?).map shape = some (.call { callee := .value (.func 39), args := #[.tmp 151, .const (.int .i64 0)], argTypes := #[3, 3] }, some 152, some (77, true)) := by kernel_rfl
theorem w6_86_77 : Waits 86 77 := waits_of (by kernel_rfl)
theorem w6_86_85 : Waits 86 85 := waits_of (by kernel_rfl)
theorem row6_87 : (ops6[87]?).map shape = some (.call { callee := .value (.func 41), args := #[.tmp 144, .tmp 152], argTypes := #[32, 32] }, some 153, some (77, true)) := by kernel_rfl
theorem w6_87_77 : Waits 87 77 := waits_of (by kernel_rfl)
theorem w6_87_78 : Waits 87 78 := waits_of (by kernel_rfl)
theorem w6_87_86 : Waits 87 86 := waits_of (by kernel_rfl)
theorem row6_88 : (ops6[88]?).map shape = some (.pick (.tmp 143) (.tmp 153) (.const (.bool false)), some 154, none) := by kernel_rfl
theorem w6_88_77 : Waits 88 77 := waits_of (by kernel_rfl)
theorem w6_88_87 : Waits 88 87 := waits_of (by kernel_rfl)
theorem row6_89 : (ops6[89]?).map shape = some (.move (.tmp 154), some 155, none) := by kernel_rfl
theorem w6_89_88 : Waits 89 88 := waits_of (by kernel_rfl)
theorem row6_90 : (ops6[90]?).map shape = some (.load 32 (.tmp 9), some 156, some (89, true)) := by kernel_rfl
theorem w6_90_89 : Waits 90 89 := waits_of (by kernel_rfl)
theorem row6_91 : (ops6[91]?).map shape = some (.load 32 (.tmp 16), some 157, some (89, true)) := by kernel_rfl
theorem w6_91_89 : Waits 91 89 := waits_of (by kernel_rfl)
theorem row6_92 : (ops6[92]?).map shape = some (.call { callee := .value (.func 15), args := #[.tmp 156, .tmp 157], argTypes := #[32, 32] }, some 158, some (89, true)) := by kernel_rfl
theorem w6_92_89 : Waits 92 89 := waits_of (by kernel_rfl)
theorem w6_92_90 : Waits 92 90 := waits_of (by kernel_rfl)
theorem w6_92_91 : Waits 92 91 := waits_of (by kernel_rfl)
theorem row6_93 : (ops6[93]?).map shape = some (.load 32 (.tmp 16), some 159, some (89, true)) := by kernel_rfl
theorem w6_93_89 : Waits 93 89 := waits_of (by kernel_rfl)
theorem row6_94 : (ops6[94]?).map shape = some (.call { callee := .value (.func 16), args := #[.tmp 158, .tmp 159], argTypes := #[32, 32] }, some 160, some (89, true)) := by kernel_rfl
theorem w6_94_89 : Waits 94 89 := waits_of (by kernel_rfl)
theorem w6_94_92 : Waits 94 92 := waits_of (by kernel_rfl)
theorem w6_94_93 : Waits 94 93 := waits_of (by kernel_rfl)
theorem row6_95 : (ops6[95]?).map shape = some (.load 32 (.tmp 9), some 161, some (89, true)) := by kernel_rfl
theorem w6_95_89 : Waits 95 89 := waits_of (by kernel_rfl)
theorem row6_96 : (ops6[96]?).map shape = some (.call { callee := .value (.func 41), args := #[.tmp 160, .tmp 161], argTypes := #[32, 32] }, some 162, some (89, true)) := by kernel_rfl
theorem w6_96_89 : Waits 96 89 := waits_of (by kernel_rfl)
theorem w6_96_94 : Waits 96 94 := waits_of (by kernel_rfl)
theorem w6_96_95 : Waits 96 95 := waits_of (by kernel_rfl)
theorem row6_97 : (ops6[97]?).map shape = some (.pick (.tmp 155) (.tmp 162) (.const (.bool false)), some 163, none) := by kernel_rfl
theorem w6_97_89 : Waits 97 89 := waits_of (by kernel_rfl)
theorem w6_97_96 : Waits 97 96 := waits_of (by kernel_rfl)
theorem row6_98 : (ops6[98]?).map shape = some (.move (.tmp 163), some 164, none) := by kernel_rfl
theorem w6_98_97 : Waits 98 97 := waits_of (by kernel_rfl)
theorem row6_99 : (ops6[99]?).map shape = some (.call { callee := .value (.func 27), args := #[], argTypes := #[] }, some 165, some (98, true)) := by kernel_rfl
theorem w6_99_98 : Waits 99 98 := waits_of (by kernel_rfl)
theorem row6_100 : (ops6[100]?).map shape = some (.pick (.tmp 164) (.tmp 165) (.const (.bool false)), some 166, none) := by kernel_rfl
theorem w6_100_98 : Waits 100 98 := waits_of (by kernel_rfl)
theorem w6_100_99 : Waits 100 99 := waits_of (by kernel_rfl)
theorem row6_101 : (ops6[101]?).map shape = some (.assign (.tmp 166), some 8, none) := by kernel_rfl
theorem w6_101_100 : Waits 101 100 := waits_of (by kernel_rfl)

def St (c : Cx) (Q : Exit → Act → World → Prop) (i : Nat) : Prop := ∀ (listed : Array Bool) (a : Act) (W : World), Inv6 c listed a W → i ∈ Region.ready .any ops6 listed → wpOp Try.prog ops6 Q i (Inv6 c (listed.setIfInBounds i true)) a W
variable {Q : Exit → Act → World → Prop} {c : Cx}

theorem st6_0 (h : c.Ok) : St c Q 0 := fun listed a W hI hi => k_load row6_0 (by omega) gok_none hI rfl hI.ten.2.1 hI.ten.2.2.1 h.var h.vai rfl
theorem st6_1 (h : c.Ok) : St c Q 1 := fun listed a W hI hi => k_load row6_1 (by omega) gok_none hI rfl hI.ten.2.2.2.1 hI.ten.2.2.2.2.1 h.vbr h.vbi rfl
theorem st6_2 (h : c.Ok) : St c Q 2 := fun listed a W hI hi => k_add13 row6_2 (by omega) gok_none hI (hI.item 0 (by omega) ((w6_2_0 : Waits 2 0).on hi)) (hI.item 1 (by omega) ((w6_2_1 : Waits 2 1).on hi)) (by have hb := h.bd; omega) (by have hb := h.bd; omega) rfl
theorem st6_3 (_h : c.Ok) : St c Q 3 := fun listed a W hI hi => k_move row6_3 (by omega) gok_none hI (hI.base 12 _ rfl) rfl
theorem st6_4 (_h : c.Ok) : St c Q 4 := fun listed a W hI hi => k_move row6_4 (by omega) gok_none hI (hI.base 14 _ rfl) rfl
theorem st6_5 (h : c.Ok) : St c Q 5 := fun listed a W hI hi => k_add row6_5 (by omega) gok_none hI (hI.item 3 (by omega) ((w6_5_3 : Waits 5 3).on hi)) (hI.item 4 (by omega) ((w6_5_4 : Waits 5 4).on hi)) (by have hb := h.bd; omega) rfl
theorem st6_6 (_h : c.Ok) : St c Q 6 := fun listed a W hI hi => k_move row6_6 (by omega) gok_none hI (hI.base 13 _ rfl) rfl
theorem st6_7 (_h : c.Ok) : St c Q 7 := fun listed a W hI hi => k_move row6_7 (by omega) gok_none hI (hI.base 15 _ rfl) rfl
theorem st6_8 (h : c.Ok) : St c Q 8 := fun listed a W hI hi => k_add row6_8 (by omega) gok_none hI (hI.item 6 (by omega) ((w6_8_6 : Waits 8 6).on hi)) (hI.item 7 (by omega) ((w6_8_7 : Waits 8 7).on hi)) (by have hb := h.bd; omega) rfl
theorem st6_9 (h : c.Ok) : St c Q 9 := fun listed a W hI hi => k_mk row6_9 (by omega) gok_none hI (hI.item 5 (by omega) ((w6_9_5 : Waits 9 5).on hi)) (hI.item 8 (by omega) ((w6_9_8 : Waits 9 8).on hi)) (by have hb := h.bd; omega) (by have hb := h.bd; omega) rfl
theorem st6_10 (_h : c.Ok) : St c Q 10 := fun listed a W hI hi => k_equal row6_10 (by omega) gok_none hI (hI.item 2 (by omega) ((w6_10_2 : Waits 10 2).on hi)) (hI.item 9 (by omega) ((w6_10_9 : Waits 10 9).on hi)) (by first | rfl | omega | (simp only [Int.mul_add]; omega)) (by first | rfl | omega | (simp only [Int.mul_add]; omega)) rfl
theorem st6_11 (_h : c.Ok) : St c Q 11 := fun listed a W hI hi => k_move row6_11 (by omega) gok_none hI (hI.item 10 (by omega) ((w6_11_10 : Waits 11 10).on hi)) rfl
theorem st6_12 (h : c.Ok) : St c Q 12 := fun listed a W hI hi => k_load row6_12 (by omega) (gok_some hI (g := 11) (by omega) (by kernel_rfl) ((w6_12_11 : Waits 12 11).on hi) rfl) hI rfl hI.ten.2.1 hI.ten.2.2.1 h.var h.vai rfl
theorem st6_13 (h : c.Ok) : St c Q 13 := fun listed a W hI hi => k_load row6_13 (by omega) (gok_some hI (g := 11) (by omega) (by kernel_rfl) ((w6_13_11 : Waits 13 11).on hi) rfl) hI rfl hI.ten.2.2.2.1 hI.ten.2.2.2.2.1 h.vbr h.vbi rfl
theorem st6_14 (h : c.Ok) : St c Q 14 := fun listed a W hI hi => k_sub14 row6_14 (by omega) (gok_some hI (g := 11) (by omega) (by kernel_rfl) ((w6_14_11 : Waits 14 11).on hi) rfl) hI (hI.item 12 (by omega) ((w6_14_12 : Waits 14 12).on hi)) (hI.item 13 (by omega) ((w6_14_13 : Waits 14 13).on hi)) (by have hb := h.bd; omega) (by have hb := h.bd; omega) rfl
theorem st6_15 (_h : c.Ok) : St c Q 15 := fun listed a W hI hi => k_move row6_15 (by omega) (gok_some hI (g := 11) (by omega) (by kernel_rfl) ((w6_15_11 : Waits 15 11).on hi) rfl) hI (hI.base 12 _ rfl) rfl
theorem st6_16 (_h : c.Ok) : St c Q 16 := fun listed a W hI hi => k_move row6_16 (by omega) (gok_some hI (g := 11) (by omega) (by kernel_rfl) ((w6_16_11 : Waits 16 11).on hi) rfl) hI (hI.base 14 _ rfl) rfl
theorem st6_17 (h : c.Ok) : St c Q 17 := fun listed a W hI hi => k_sub row6_17 (by omega) (gok_some hI (g := 11) (by omega) (by kernel_rfl) ((w6_17_11 : Waits 17 11).on hi) rfl) hI (hI.item 15 (by omega) ((w6_17_15 : Waits 17 15).on hi)) (hI.item 16 (by omega) ((w6_17_16 : Waits 17 16).on hi)) (by have hb := h.bd; omega) rfl
theorem st6_18 (_h : c.Ok) : St c Q 18 := fun listed a W hI hi => k_move row6_18 (by omega) (gok_some hI (g := 11) (by omega) (by kernel_rfl) ((w6_18_11 : Waits 18 11).on hi) rfl) hI (hI.base 13 _ rfl) rfl
theorem st6_19 (_h : c.Ok) : St c Q 19 := fun listed a W hI hi => k_move row6_19 (by omega) (gok_some hI (g := 11) (by omega) (by kernel_rfl) ((w6_19_11 : Waits 19 11).on hi) rfl) hI (hI.base 15 _ rfl) rfl
theorem st6_20 (h : c.Ok) : St c Q 20 := fun listed a W hI hi => k_sub row6_20 (by omega) (gok_some hI (g := 11) (by omega) (by kernel_rfl) ((w6_20_11 : Waits 20 11).on hi) rfl) hI (hI.item 18 (by omega) ((w6_20_18 : Waits 20 18).on hi)) (hI.item 19 (by omega) ((w6_20_19 : Waits 20 19).on hi)) (by have hb := h.bd; omega) rfl
theorem st6_21 (h : c.Ok) : St c Q 21 := fun listed a W hI hi => k_mk row6_21 (by omega) (gok_some hI (g := 11) (by omega) (by kernel_rfl) ((w6_21_11 : Waits 21 11).on hi) rfl) hI (hI.item 17 (by omega) ((w6_21_17 : Waits 21 17).on hi)) (hI.item 20 (by omega) ((w6_21_20 : Waits 21 20).on hi)) (by have hb := h.bd; omega) (by have hb := h.bd; omega) rfl
theorem st6_22 (_h : c.Ok) : St c Q 22 := fun listed a W hI hi => k_equal row6_22 (by omega) (gok_some hI (g := 11) (by omega) (by kernel_rfl) ((w6_22_11 : Waits 22 11).on hi) rfl) hI (hI.item 14 (by omega) ((w6_22_14 : Waits 22 14).on hi)) (hI.item 21 (by omega) ((w6_22_21 : Waits 22 21).on hi)) (by first | rfl | omega | (simp only [Int.mul_add]; omega)) (by first | rfl | omega | (simp only [Int.mul_add]; omega)) rfl
theorem st6_23 (_h : c.Ok) : St c Q 23 := fun listed a W hI hi => k_pick row6_23 (by omega) gok_none hI (hI.item 11 (by omega) ((w6_23_11 : Waits 23 11).on hi)) (hI.item 22 (by omega) ((w6_23_22 : Waits 23 22).on hi)) rfl
theorem st6_24 (_h : c.Ok) : St c Q 24 := fun listed a W hI hi => k_move row6_24 (by omega) gok_none hI (hI.item 23 (by omega) ((w6_24_23 : Waits 24 23).on hi)) rfl
theorem st6_25 (h : c.Ok) : St c Q 25 := fun listed a W hI hi => k_load row6_25 (by omega) (gok_some hI (g := 24) (by omega) (by kernel_rfl) ((w6_25_24 : Waits 25 24).on hi) rfl) hI rfl hI.ten.2.1 hI.ten.2.2.1 h.var h.vai rfl
theorem st6_26 (h : c.Ok) : St c Q 26 := fun listed a W hI hi => k_load row6_26 (by omega) (gok_some hI (g := 24) (by omega) (by kernel_rfl) ((w6_26_24 : Waits 26 24).on hi) rfl) hI rfl hI.ten.2.2.2.1 hI.ten.2.2.2.2.1 h.vbr h.vbi rfl
theorem st6_27 (h : c.Ok) : St c Q 27 := fun listed a W hI hi => k_mul15 row6_27 (by omega) (gok_some hI (g := 24) (by omega) (by kernel_rfl) ((w6_27_24 : Waits 27 24).on hi) rfl) hI (hI.item 25 (by omega) ((w6_27_25 : Waits 27 25).on hi)) (hI.item 26 (by omega) ((w6_27_26 : Waits 27 26).on hi)) (by have hb := h.bd; omega) (by have hb := h.bd; omega) (by have hb := h.bd; omega) (by have hb := h.bd; omega) (by have hb := h.bd; omega) (by have hb := h.bd; omega) rfl
theorem st6_28 (_h : c.Ok) : St c Q 28 := fun listed a W hI hi => k_move row6_28 (by omega) (gok_some hI (g := 24) (by omega) (by kernel_rfl) ((w6_28_24 : Waits 28 24).on hi) rfl) hI (hI.base 12 _ rfl) rfl
theorem st6_29 (_h : c.Ok) : St c Q 29 := fun listed a W hI hi => k_move row6_29 (by omega) (gok_some hI (g := 24) (by omega) (by kernel_rfl) ((w6_29_24 : Waits 29 24).on hi) rfl) hI (hI.base 14 _ rfl) rfl
theorem st6_30 (h : c.Ok) : St c Q 30 := fun listed a W hI hi => k_mul row6_30 (by omega) (gok_some hI (g := 24) (by omega) (by kernel_rfl) ((w6_30_24 : Waits 30 24).on hi) rfl) hI (hI.item 28 (by omega) ((w6_30_28 : Waits 30 28).on hi)) (hI.item 29 (by omega) ((w6_30_29 : Waits 30 29).on hi)) (by have hb := h.bd; omega) rfl
theorem st6_31 (_h : c.Ok) : St c Q 31 := fun listed a W hI hi => k_move row6_31 (by omega) (gok_some hI (g := 24) (by omega) (by kernel_rfl) ((w6_31_24 : Waits 31 24).on hi) rfl) hI (hI.base 13 _ rfl) rfl
theorem st6_32 (_h : c.Ok) : St c Q 32 := fun listed a W hI hi => k_move row6_32 (by omega) (gok_some hI (g := 24) (by omega) (by kernel_rfl) ((w6_32_24 : Waits 32 24).on hi) rfl) hI (hI.base 15 _ rfl) rfl
theorem st6_33 (h : c.Ok) : St c Q 33 := fun listed a W hI hi => k_mul row6_33 (by omega) (gok_some hI (g := 24) (by omega) (by kernel_rfl) ((w6_33_24 : Waits 33 24).on hi) rfl) hI (hI.item 31 (by omega) ((w6_33_31 : Waits 33 31).on hi)) (hI.item 32 (by omega) ((w6_33_32 : Waits 33 32).on hi)) (by have hb := h.bd; omega) rfl
theorem st6_34 (h : c.Ok) : St c Q 34 := fun listed a W hI hi => k_sub row6_34 (by omega) (gok_some hI (g := 24) (by omega) (by kernel_rfl) ((w6_34_24 : Waits 34 24).on hi) rfl) hI (hI.item 30 (by omega) ((w6_34_30 : Waits 34 30).on hi)) (hI.item 33 (by omega) ((w6_34_33 : Waits 34 33).on hi)) (by have hb := h.bd; omega) rfl
theorem st6_35 (_h : c.Ok) : St c Q 35 := fun listed a W hI hi => k_move row6_35 (by omega) (gok_some hI (g := 24) (by omega) (by kernel_rfl) ((w6_35_24 : Waits 35 24).on hi) rfl) hI (hI.base 12 _ rfl) rfl
theorem st6_36 (_h : c.Ok) : St c Q 36 := fun listed a W hI hi => k_move row6_36 (by omega) (gok_some hI (g := 24) (by omega) (by kernel_rfl) ((w6_36_24 : Waits 36 24).on hi) rfl) hI (hI.base 15 _ rfl) rfl
theorem st6_37 (h : c.Ok) : St c Q 37 := fun listed a W hI hi => k_mul row6_37 (by omega) (gok_some hI (g := 24) (by omega) (by kernel_rfl) ((w6_37_24 : Waits 37 24).on hi) rfl) hI (hI.item 35 (by omega) ((w6_37_35 : Waits 37 35).on hi)) (hI.item 36 (by omega) ((w6_37_36 : Waits 37 36).on hi)) (by have hb := h.bd; omega) rfl
theorem st6_38 (_h : c.Ok) : St c Q 38 := fun listed a W hI hi => k_move row6_38 (by omega) (gok_some hI (g := 24) (by omega) (by kernel_rfl) ((w6_38_24 : Waits 38 24).on hi) rfl) hI (hI.base 13 _ rfl) rfl
theorem st6_39 (_h : c.Ok) : St c Q 39 := fun listed a W hI hi => k_move row6_39 (by omega) (gok_some hI (g := 24) (by omega) (by kernel_rfl) ((w6_39_24 : Waits 39 24).on hi) rfl) hI (hI.base 14 _ rfl) rfl
theorem st6_40 (h : c.Ok) : St c Q 40 := fun listed a W hI hi => k_mul row6_40 (by omega) (gok_some hI (g := 24) (by omega) (by kernel_rfl) ((w6_40_24 : Waits 40 24).on hi) rfl) hI (hI.item 38 (by omega) ((w6_40_38 : Waits 40 38).on hi)) (hI.item 39 (by omega) ((w6_40_39 : Waits 40 39).on hi)) (by have hb := h.bd; omega) rfl
theorem st6_41 (h : c.Ok) : St c Q 41 := fun listed a W hI hi => k_add row6_41 (by omega) (gok_some hI (g := 24) (by omega) (by kernel_rfl) ((w6_41_24 : Waits 41 24).on hi) rfl) hI (hI.item 37 (by omega) ((w6_41_37 : Waits 41 37).on hi)) (hI.item 40 (by omega) ((w6_41_40 : Waits 41 40).on hi)) (by have hb := h.bd; omega) rfl
theorem st6_42 (h : c.Ok) : St c Q 42 := fun listed a W hI hi => k_mk row6_42 (by omega) (gok_some hI (g := 24) (by omega) (by kernel_rfl) ((w6_42_24 : Waits 42 24).on hi) rfl) hI (hI.item 34 (by omega) ((w6_42_34 : Waits 42 34).on hi)) (hI.item 41 (by omega) ((w6_42_41 : Waits 42 41).on hi)) (by have hb := h.bd; omega) (by have hb := h.bd; omega) rfl
theorem st6_43 (_h : c.Ok) : St c Q 43 := fun listed a W hI hi => k_equal row6_43 (by omega) (gok_some hI (g := 24) (by omega) (by kernel_rfl) ((w6_43_24 : Waits 43 24).on hi) rfl) hI (hI.item 27 (by omega) ((w6_43_27 : Waits 43 27).on hi)) (hI.item 42 (by omega) ((w6_43_42 : Waits 43 42).on hi)) (by first | rfl | omega | (simp only [Int.mul_add]; omega)) (by first | rfl | omega | (simp only [Int.mul_add]; omega)) rfl
theorem st6_44 (_h : c.Ok) : St c Q 44 := fun listed a W hI hi => k_pick row6_44 (by omega) gok_none hI (hI.item 24 (by omega) ((w6_44_24 : Waits 44 24).on hi)) (hI.item 43 (by omega) ((w6_44_43 : Waits 44 43).on hi)) rfl
theorem st6_45 (_h : c.Ok) : St c Q 45 := fun listed a W hI hi => k_move row6_45 (by omega) gok_none hI (hI.item 44 (by omega) ((w6_45_44 : Waits 45 44).on hi)) rfl
theorem st6_46 (h : c.Ok) : St c Q 46 := fun listed a W hI hi => k_load row6_46 (by omega) (gok_some hI (g := 45) (by omega) (by kernel_rfl) ((w6_46_45 : Waits 46 45).on hi) rfl) hI rfl hI.ten.2.1 hI.ten.2.2.1 h.var h.vai rfl
theorem st6_47 (h : c.Ok) : St c Q 47 := fun listed a W hI hi => k_load row6_47 (by omega) (gok_some hI (g := 45) (by omega) (by kernel_rfl) ((w6_47_45 : Waits 47 45).on hi) rfl) hI rfl hI.ten.2.2.2.1 hI.ten.2.2.2.2.1 h.vbr h.vbi rfl
theorem st6_48 (h : c.Ok) : St c Q 48 := fun listed a W hI hi => k_add13 row6_48 (by omega) (gok_some hI (g := 45) (by omega) (by kernel_rfl) ((w6_48_45 : Waits 48 45).on hi) rfl) hI (hI.item 46 (by omega) ((w6_48_46 : Waits 48 46).on hi)) (hI.item 47 (by omega) ((w6_48_47 : Waits 48 47).on hi)) (by have hb := h.bd; omega) (by have hb := h.bd; omega) rfl
theorem st6_49 (h : c.Ok) : St c Q 49 := fun listed a W hI hi => k_load row6_49 (by omega) (gok_some hI (g := 45) (by omega) (by kernel_rfl) ((w6_49_45 : Waits 49 45).on hi) rfl) hI rfl hI.ten.2.2.2.2.2.1 hI.ten.2.2.2.2.2.2.1 h.vcr h.vci rfl
theorem st6_50 (h : c.Ok) : St c Q 50 := fun listed a W hI hi => k_add13 row6_50 (by omega) (gok_some hI (g := 45) (by omega) (by kernel_rfl) ((w6_50_45 : Waits 50 45).on hi) rfl) hI (hI.item 48 (by omega) ((w6_50_48 : Waits 50 48).on hi)) (hI.item 49 (by omega) ((w6_50_49 : Waits 50 49).on hi)) (by have hb := h.bd; omega) (by have hb := h.bd; omega) rfl
theorem st6_51 (h : c.Ok) : St c Q 51 := fun listed a W hI hi => k_load row6_51 (by omega) (gok_some hI (g := 45) (by omega) (by kernel_rfl) ((w6_51_45 : Waits 51 45).on hi) rfl) hI rfl hI.ten.2.1 hI.ten.2.2.1 h.var h.vai rfl
theorem st6_52 (h : c.Ok) : St c Q 52 := fun listed a W hI hi => k_load row6_52 (by omega) (gok_some hI (g := 45) (by omega) (by kernel_rfl) ((w6_52_45 : Waits 52 45).on hi) rfl) hI rfl hI.ten.2.2.2.1 hI.ten.2.2.2.2.1 h.vbr h.vbi rfl
theorem st6_53 (h : c.Ok) : St c Q 53 := fun listed a W hI hi => k_load row6_53 (by omega) (gok_some hI (g := 45) (by omega) (by kernel_rfl) ((w6_53_45 : Waits 53 45).on hi) rfl) hI rfl hI.ten.2.2.2.2.2.1 hI.ten.2.2.2.2.2.2.1 h.vcr h.vci rfl
theorem st6_54 (h : c.Ok) : St c Q 54 := fun listed a W hI hi => k_add13 row6_54 (by omega) (gok_some hI (g := 45) (by omega) (by kernel_rfl) ((w6_54_45 : Waits 54 45).on hi) rfl) hI (hI.item 52 (by omega) ((w6_54_52 : Waits 54 52).on hi)) (hI.item 53 (by omega) ((w6_54_53 : Waits 54 53).on hi)) (by have hb := h.bd; omega) (by have hb := h.bd; omega) rfl
theorem st6_55 (h : c.Ok) : St c Q 55 := fun listed a W hI hi => k_add13 row6_55 (by omega) (gok_some hI (g := 45) (by omega) (by kernel_rfl) ((w6_55_45 : Waits 55 45).on hi) rfl) hI (hI.item 51 (by omega) ((w6_55_51 : Waits 55 51).on hi)) (hI.item 54 (by omega) ((w6_55_54 : Waits 55 54).on hi)) (by have hb := h.bd; omega) (by have hb := h.bd; omega) rfl
theorem st6_56 (_h : c.Ok) : St c Q 56 := fun listed a W hI hi => k_equal row6_56 (by omega) (gok_some hI (g := 45) (by omega) (by kernel_rfl) ((w6_56_45 : Waits 56 45).on hi) rfl) hI (hI.item 50 (by omega) ((w6_56_50 : Waits 56 50).on hi)) (hI.item 55 (by omega) ((w6_56_55 : Waits 56 55).on hi)) (by first | rfl | omega | (simp only [Int.mul_add]; omega)) (by first | rfl | omega | (simp only [Int.mul_add]; omega)) rfl
theorem st6_57 (_h : c.Ok) : St c Q 57 := fun listed a W hI hi => k_pick row6_57 (by omega) gok_none hI (hI.item 45 (by omega) ((w6_57_45 : Waits 57 45).on hi)) (hI.item 56 (by omega) ((w6_57_56 : Waits 57 56).on hi)) rfl
theorem st6_58 (_h : c.Ok) : St c Q 58 := fun listed a W hI hi => k_move row6_58 (by omega) gok_none hI (hI.item 57 (by omega) ((w6_58_57 : Waits 58 57).on hi)) rfl
theorem st6_59 (h : c.Ok) : St c Q 59 := fun listed a W hI hi => k_load row6_59 (by omega) (gok_some hI (g := 58) (by omega) (by kernel_rfl) ((w6_59_58 : Waits 59 58).on hi) rfl) hI rfl hI.ten.2.1 hI.ten.2.2.1 h.var h.vai rfl
theorem st6_60 (h : c.Ok) : St c Q 60 := fun listed a W hI hi => k_load row6_60 (by omega) (gok_some hI (g := 58) (by omega) (by kernel_rfl) ((w6_60_58 : Waits 60 58).on hi) rfl) hI rfl hI.ten.2.2.2.1 hI.ten.2.2.2.2.1 h.vbr h.vbi rfl
theorem st6_61 (h : c.Ok) : St c Q 61 := fun listed a W hI hi => k_load row6_61 (by omega) (gok_some hI (g := 58) (by omega) (by kernel_rfl) ((w6_61_58 : Waits 61 58).on hi) rfl) hI rfl hI.ten.2.2.2.2.2.1 hI.ten.2.2.2.2.2.2.1 h.vcr h.vci rfl
theorem st6_62 (h : c.Ok) : St c Q 62 := fun listed a W hI hi => k_add13 row6_62 (by omega) (gok_some hI (g := 58) (by omega) (by kernel_rfl) ((w6_62_58 : Waits 62 58).on hi) rfl) hI (hI.item 60 (by omega) ((w6_62_60 : Waits 62 60).on hi)) (hI.item 61 (by omega) ((w6_62_61 : Waits 62 61).on hi)) (by have hb := h.bd; omega) (by have hb := h.bd; omega) rfl
theorem st6_63 (h : c.Ok) : St c Q 63 := fun listed a W hI hi => k_mul15 row6_63 (by omega) (gok_some hI (g := 58) (by omega) (by kernel_rfl) ((w6_63_58 : Waits 63 58).on hi) rfl) hI (hI.item 59 (by omega) ((w6_63_59 : Waits 63 59).on hi)) (hI.item 62 (by omega) ((w6_63_62 : Waits 63 62).on hi)) (by have hb := h.bd; omega) (by have hb := h.bd; omega) (by have hb := h.bd; omega) (by have hb := h.bd; omega) (by have hb := h.bd; omega) (by have hb := h.bd; omega) rfl
theorem st6_64 (h : c.Ok) : St c Q 64 := fun listed a W hI hi => k_load row6_64 (by omega) (gok_some hI (g := 58) (by omega) (by kernel_rfl) ((w6_64_58 : Waits 64 58).on hi) rfl) hI rfl hI.ten.2.1 hI.ten.2.2.1 h.var h.vai rfl
theorem st6_65 (h : c.Ok) : St c Q 65 := fun listed a W hI hi => k_load row6_65 (by omega) (gok_some hI (g := 58) (by omega) (by kernel_rfl) ((w6_65_58 : Waits 65 58).on hi) rfl) hI rfl hI.ten.2.2.2.1 hI.ten.2.2.2.2.1 h.vbr h.vbi rfl
theorem st6_66 (h : c.Ok) : St c Q 66 := fun listed a W hI hi => k_mul15 row6_66 (by omega) (gok_some hI (g := 58) (by omega) (by kernel_rfl) ((w6_66_58 : Waits 66 58).on hi) rfl) hI (hI.item 64 (by omega) ((w6_66_64 : Waits 66 64).on hi)) (hI.item 65 (by omega) ((w6_66_65 : Waits 66 65).on hi)) (by have hb := h.bd; omega) (by have hb := h.bd; omega) (by have hb := h.bd; omega) (by have hb := h.bd; omega) (by have hb := h.bd; omega) (by have hb := h.bd; omega) rfl
theorem st6_67 (h : c.Ok) : St c Q 67 := fun listed a W hI hi => k_load row6_67 (by omega) (gok_some hI (g := 58) (by omega) (by kernel_rfl) ((w6_67_58 : Waits 67 58).on hi) rfl) hI rfl hI.ten.2.1 hI.ten.2.2.1 h.var h.vai rfl
theorem st6_68 (h : c.Ok) : St c Q 68 := fun listed a W hI hi => k_load row6_68 (by omega) (gok_some hI (g := 58) (by omega) (by kernel_rfl) ((w6_68_58 : Waits 68 58).on hi) rfl) hI rfl hI.ten.2.2.2.2.2.1 hI.ten.2.2.2.2.2.2.1 h.vcr h.vci rfl
theorem st6_69 (h : c.Ok) : St c Q 69 := fun listed a W hI hi => k_mul15 row6_69 (by omega) (gok_some hI (g := 58) (by omega) (by kernel_rfl) ((w6_69_58 : Waits 69 58).on hi) rfl) hI (hI.item 67 (by omega) ((w6_69_67 : Waits 69 67).on hi)) (hI.item 68 (by omega) ((w6_69_68 : Waits 69 68).on hi)) (by have hb := h.bd; omega) (by have hb := h.bd; omega) (by have hb := h.bd; omega) (by have hb := h.bd; omega) (by have hb := h.bd; omega) (by have hb := h.bd; omega) rfl
theorem st6_70 (h : c.Ok) : St c Q 70 := fun listed a W hI hi => k_add13 row6_70 (by omega) (gok_some hI (g := 58) (by omega) (by kernel_rfl) ((w6_70_58 : Waits 70 58).on hi) rfl) hI (hI.item 66 (by omega) ((w6_70_66 : Waits 70 66).on hi)) (hI.item 69 (by omega) ((w6_70_69 : Waits 70 69).on hi)) (by have hb := h.bd; omega) (by have hb := h.bd; omega) rfl
theorem st6_71 (_h : c.Ok) : St c Q 71 := fun listed a W hI hi => k_equal row6_71 (by omega) (gok_some hI (g := 58) (by omega) (by kernel_rfl) ((w6_71_58 : Waits 71 58).on hi) rfl) hI (hI.item 63 (by omega) ((w6_71_63 : Waits 71 63).on hi)) (hI.item 70 (by omega) ((w6_71_70 : Waits 71 70).on hi)) (by first | rfl | omega | (simp only [Int.mul_add]; omega)) (by first | rfl | omega | (simp only [Int.mul_add]; omega)) rfl
theorem st6_72 (_h : c.Ok) : St c Q 72 := fun listed a W hI hi => k_pick row6_72 (by omega) gok_none hI (hI.item 58 (by omega) ((w6_72_58 : Waits 72 58).on hi)) (hI.item 71 (by omega) ((w6_72_71 : Waits 72 71).on hi)) rfl
theorem st6_73 (_h : c.Ok) : St c Q 73 := fun listed a W hI hi => k_move row6_73 (by omega) gok_none hI (hI.item 72 (by omega) ((w6_73_72 : Waits 73 72).on hi)) rfl
theorem st6_74 (_h : c.Ok) : St c Q 74 := fun listed a W hI hi => k_move row6_74 (by omega) (gok_some hI (g := 73) (by omega) (by kernel_rfl) ((w6_74_73 : Waits 74 73).on hi) rfl) hI (hI.base 19 _ rfl) rfl
theorem st6_75 (h : c.Ok) : St c Q 75 := fun listed a W hI hi => k_eql row6_75 (by omega) (gok_some hI (g := 73) (by omega) (by kernel_rfl) ((w6_75_73 : Waits 75 73).on hi) rfl) hI (hI.item 74 (by omega) ((w6_75_74 : Waits 75 74).on hi)) h.hq rfl
theorem st6_76 (_h : c.Ok) : St c Q 76 := fun listed a W hI hi => k_pick row6_76 (by omega) gok_none hI (hI.item 73 (by omega) ((w6_76_73 : Waits 76 73).on hi)) (hI.item 75 (by omega) ((w6_76_75 : Waits 76 75).on hi)) rfl
theorem st6_77 (_h : c.Ok) : St c Q 77 := fun listed a W hI hi => k_move row6_77 (by omega) gok_none hI (hI.item 76 (by omega) ((w6_77_76 : Waits 77 76).on hi)) rfl
theorem st6_78 (h : c.Ok) : St c Q 78 := fun listed a W hI hi => k_load row6_78 (by omega) (gok_some hI (g := 77) (by omega) (by kernel_rfl) ((w6_78_77 : Waits 78 77).on hi) rfl) hI rfl hI.ten.2.2.2.2.2.2.2.2.2.1 hI.ten.2.2.2.2.2.2.2.2.2.2 h.vre h.vim rfl
theorem st6_79 (_h : c.Ok) : St c Q 79 := fun listed a W hI hi => k_move row6_79 (by omega) (gok_some hI (g := 77) (by omega) (by kernel_rfl) ((w6_79_77 : Waits 79 77).on hi) rfl) hI (hI.base 12 _ rfl) rfl
theorem st6_80 (_h : c.Ok) : St c Q 80 := fun listed a W hI hi => k_move row6_80 (by omega) (gok_some hI (g := 77) (by omega) (by kernel_rfl) ((w6_80_77 : Waits 80 77).on hi) rfl) hI (hI.base 12 _ rfl) rfl
theorem st6_81 (h : c.Ok) : St c Q 81 := fun listed a W hI hi => k_mul row6_81 (by omega) (gok_some hI (g := 77) (by omega) (by kernel_rfl) ((w6_81_77 : Waits 81 77).on hi) rfl) hI (hI.item 79 (by omega) ((w6_81_79 : Waits 81 79).on hi)) (hI.item 80 (by omega) ((w6_81_80 : Waits 81 80).on hi)) (by have hb := h.bd; omega) rfl
theorem st6_82 (_h : c.Ok) : St c Q 82 := fun listed a W hI hi => k_move row6_82 (by omega) (gok_some hI (g := 77) (by omega) (by kernel_rfl) ((w6_82_77 : Waits 82 77).on hi) rfl) hI (hI.base 13 _ rfl) rfl
theorem st6_83 (_h : c.Ok) : St c Q 83 := fun listed a W hI hi => k_move row6_83 (by omega) (gok_some hI (g := 77) (by omega) (by kernel_rfl) ((w6_83_77 : Waits 83 77).on hi) rfl) hI (hI.base 13 _ rfl) rfl
theorem st6_84 (h : c.Ok) : St c Q 84 := fun listed a W hI hi => k_mul row6_84 (by omega) (gok_some hI (g := 77) (by omega) (by kernel_rfl) ((w6_84_77 : Waits 84 77).on hi) rfl) hI (hI.item 82 (by omega) ((w6_84_82 : Waits 84 82).on hi)) (hI.item 83 (by omega) ((w6_84_83 : Waits 84 83).on hi)) (by have hb := h.bd; omega) rfl
theorem st6_85 (h : c.Ok) : St c Q 85 := fun listed a W hI hi => k_add row6_85 (by omega) (gok_some hI (g := 77) (by omega) (by kernel_rfl) ((w6_85_77 : Waits 85 77).on hi) rfl) hI (hI.item 81 (by omega) ((w6_85_81 : Waits 85 81).on hi)) (hI.item 84 (by omega) ((w6_85_84 : Waits 85 84).on hi)) (by have hb := h.bd; omega) rfl
theorem st6_86 (h : c.Ok) : St c Q 86 := fun listed a W hI hi => k_mk row6_86 (by omega) (gok_some hI (g := 77) (by omega) (by kernel_rfl) ((w6_86_77 : Waits 86 77).on hi) rfl) hI (hI.item 85 (by omega) ((w6_86_85 : Waits 86 85).on hi)) rfl (by have hb := h.bd; omega) (by have hb := h.bd; omega) rfl
theorem st6_87 (_h : c.Ok) : St c Q 87 := fun listed a W hI hi => k_equal row6_87 (by omega) (gok_some hI (g := 77) (by omega) (by kernel_rfl) ((w6_87_77 : Waits 87 77).on hi) rfl) hI (hI.item 78 (by omega) ((w6_87_78 : Waits 87 78).on hi)) (hI.item 86 (by omega) ((w6_87_86 : Waits 87 86).on hi)) (by first | rfl | omega | (simp only [Int.mul_add]; omega)) (by first | rfl | omega | (simp only [Int.mul_add]; omega)) rfl
theorem st6_88 (_h : c.Ok) : St c Q 88 := fun listed a W hI hi => k_pick row6_88 (by omega) gok_none hI (hI.item 77 (by omega) ((w6_88_77 : Waits 88 77).on hi)) (hI.item 87 (by omega) ((w6_88_87 : Waits 88 87).on hi)) rfl
theorem st6_89 (_h : c.Ok) : St c Q 89 := fun listed a W hI hi => k_move row6_89 (by omega) gok_none hI (hI.item 88 (by omega) ((w6_89_88 : Waits 89 88).on hi)) rfl
theorem st6_90 (h : c.Ok) : St c Q 90 := fun listed a W hI hi => k_load row6_90 (by omega) (gok_some hI (g := 89) (by omega) (by kernel_rfl) ((w6_90_89 : Waits 90 89).on hi) rfl) hI rfl hI.ten.2.1 hI.ten.2.2.1 h.var h.vai rfl
theorem st6_91 (h : c.Ok) : St c Q 91 := fun listed a W hI hi => k_load row6_91 (by omega) (gok_some hI (g := 89) (by omega) (by kernel_rfl) ((w6_91_89 : Waits 91 89).on hi) rfl) hI rfl hI.ten.2.2.2.2.2.2.2.1 hI.ten.2.2.2.2.2.2.2.2.1 h.vpr h.vpi rfl
theorem st6_92 (h : c.Ok) : St c Q 92 := fun listed a W hI hi => k_mul15 row6_92 (by omega) (gok_some hI (g := 89) (by omega) (by kernel_rfl) ((w6_92_89 : Waits 92 89).on hi) rfl) hI (hI.item 90 (by omega) ((w6_92_90 : Waits 92 90).on hi)) (hI.item 91 (by omega) ((w6_92_91 : Waits 92 91).on hi)) (by have hb := h.bd; omega) (by have hb := h.bd; omega) (by have hb := h.bd; omega) (by have hb := h.bd; omega) (by have hb := h.bd; omega) (by have hb := h.bd; omega) rfl
theorem st6_93 (h : c.Ok) : St c Q 93 := fun listed a W hI hi => k_load row6_93 (by omega) (gok_some hI (g := 89) (by omega) (by kernel_rfl) ((w6_93_89 : Waits 93 89).on hi) rfl) hI rfl hI.ten.2.2.2.2.2.2.2.1 hI.ten.2.2.2.2.2.2.2.2.1 h.vpr h.vpi rfl
theorem st6_94 (h : c.Ok) : St c Q 94 := fun listed a W hI hi => k_div row6_94 (by omega) (gok_some hI (g := 89) (by omega) (by kernel_rfl) ((w6_94_89 : Waits 94 89).on hi) rfl) hI (hI.item 92 (by omega) ((w6_94_92 : Waits 94 92).on hi)) (hI.item 93 (by omega) ((w6_94_93 : Waits 94 93).on hi)) h.hj h.l0 h.l1 (by simp) (by simp) rfl
theorem st6_95 (h : c.Ok) : St c Q 95 := fun listed a W hI hi => k_load row6_95 (by omega) (gok_some hI (g := 89) (by omega) (by kernel_rfl) ((w6_95_89 : Waits 95 89).on hi) rfl) hI rfl hI.ten.2.1 hI.ten.2.2.1 h.var h.vai rfl
theorem st6_96 (_h : c.Ok) : St c Q 96 := fun listed a W hI hi => k_equal row6_96 (by omega) (gok_some hI (g := 89) (by omega) (by kernel_rfl) ((w6_96_89 : Waits 96 89).on hi) rfl) hI (hI.item 94 (by omega) ((w6_96_94 : Waits 96 94).on hi)) (hI.item 95 (by omega) ((w6_96_95 : Waits 96 95).on hi)) (by first | rfl | omega | (simp only [Int.mul_add]; omega)) (by first | rfl | omega | (simp only [Int.mul_add]; omega)) rfl
theorem st6_97 (_h : c.Ok) : St c Q 97 := fun listed a W hI hi => k_pick row6_97 (by omega) gok_none hI (hI.item 89 (by omega) ((w6_97_89 : Waits 97 89).on hi)) (hI.item 96 (by omega) ((w6_97_96 : Waits 97 96).on hi)) rfl
theorem st6_98 (_h : c.Ok) : St c Q 98 := fun listed a W hI hi => k_move row6_98 (by omega) gok_none hI (hI.item 97 (by omega) ((w6_98_97 : Waits 98 97).on hi)) rfl
theorem st6_99 (_h : c.Ok) : St c Q 99 := fun listed a W hI hi => k_awake row6_99 (by omega) (gok_some hI (g := 98) (by omega) (by kernel_rfl) ((w6_99_98 : Waits 99 98).on hi) rfl) hI rfl
theorem st6_100 (_h : c.Ok) : St c Q 100 := fun listed a W hI hi => k_pick row6_100 (by omega) gok_none hI (hI.item 98 (by omega) ((w6_100_98 : Waits 100 98).on hi)) (hI.item 99 (by omega) ((w6_100_99 : Waits 100 99).on hi)) rfl

theorem st6_101 : St c Q 101 := fun listed a W hI hi => by
  obtain ⟨o, ho, hp, hd, hg⟩ := row_of6 row6_101
  have e : a.eval (.tmp 166) = .bool true := hI.item 100 (by omega) (w6_101_100.on hi)
  have hr : (execOp a.eval o).run Try.prog W = .ok (.value (.bool true)) W := by
    simp only [execOp, hp, e]
    rfl
  refine wpOp_step ho fun K' hK' => ?_
  rw [if_pos (by simp [Region.wanted, hg])]
  simp only [Oper.wp, hr, Oper.upon, hd]
  have hs := hI.size
  have hq : ∀ e, V (a.put (some 8) (.bool true)) e = if e = 8 then .bool true else V a e := fun e => V_put (by omega)
  refine hK' _ _ ⟨by simp [Act.put, hs], hI.defers, fun d x hd => ?_, hI.ten, fun k hk ho => ?_, fun ho => ?_⟩
  · have := based_low hd
    rw [hq, if_neg (by omega)]; exact hI.base d x hd
  · rw [hq, if_neg (by omega)]; exact hI.item k hk ((listed_get ho).resolve_right (by omega))
  · rw [hq, if_pos rfl]

theorem upto_succ6 {P : Nat → Prop} {n : Nat} (h : ∀ i, i < n → P i) (hn : P n) : ∀ i, i < n + 1 → P i := fun i hi => by
  by_cases e : i = n
  · subst e; exact hn
  · exact h i (by omega)
theorem none6 {P : Nat → Prop} : ∀ i, i < 0 → P i := fun i hi => absurd hi (Nat.not_lt_zero i)

theorem blk6_20 (h : c.Ok) : ∀ i, i < 20 → St c Q i := (upto_succ6 (upto_succ6 (upto_succ6 (upto_succ6 (upto_succ6 (upto_succ6 (upto_succ6 (upto_succ6 (upto_succ6 (upto_succ6 (upto_succ6 (upto_succ6 (upto_succ6 (upto_succ6 (upto_succ6 (upto_succ6 (upto_succ6 (upto_succ6 (upto_succ6 (upto_succ6 none6 (st6_0 h)) (st6_1 h)) (st6_2 h)) (st6_3 h)) (st6_4 h)) (st6_5 h)) (st6_6 h)) (st6_7 h)) (st6_8 h)) (st6_9 h)) (st6_10 h)) (st6_11 h)) (st6_12 h)) (st6_13 h)) (st6_14 h)) (st6_15 h)) (st6_16 h)) (st6_17 h)) (st6_18 h)) (st6_19 h))
theorem blk6_40 (h : c.Ok) : ∀ i, i < 40 → St c Q i := (upto_succ6 (upto_succ6 (upto_succ6 (upto_succ6 (upto_succ6 (upto_succ6 (upto_succ6 (upto_succ6 (upto_succ6 (upto_succ6 (upto_succ6 (upto_succ6 (upto_succ6 (upto_succ6 (upto_succ6 (upto_succ6 (upto_succ6 (upto_succ6 (upto_succ6 (upto_succ6 (blk6_20 h) (st6_20 h)) (st6_21 h)) (st6_22 h)) (st6_23 h)) (st6_24 h)) (st6_25 h)) (st6_26 h)) (st6_27 h)) (st6_28 h)) (st6_29 h)) (st6_30 h)) (st6_31 h)) (st6_32 h)) (st6_33 h)) (st6_34 h)) (st6_35 h)) (st6_36 h)) (st6_37 h)) (st6_38 h)) (st6_39 h))
theorem blk6_60 (h : c.Ok) : ∀ i, i < 60 → St c Q i := (upto_succ6 (upto_succ6 (upto_succ6 (upto_succ6 (upto_succ6 (upto_succ6 (upto_succ6 (upto_succ6 (upto_succ6 (upto_succ6 (upto_succ6 (upto_succ6 (upto_succ6 (upto_succ6 (upto_succ6 (upto_succ6 (upto_succ6 (upto_succ6 (upto_succ6 (upto_succ6 (blk6_40 h) (st6_40 h)) (st6_41 h)) (st6_42 h)) (st6_43 h)) (st6_44 h)) (st6_45 h)) (st6_46 h)) (st6_47 h)) (st6_48 h)) (st6_49 h)) (st6_50 h)) (st6_51 h)) (st6_52 h)) (st6_53 h)) (st6_54 h)) (st6_55 h)) (st6_56 h)) (st6_57 h)) (st6_58 h)) (st6_59 h))
theorem blk6_80 (h : c.Ok) : ∀ i, i < 80 → St c Q i := (upto_succ6 (upto_succ6 (upto_succ6 (upto_succ6 (upto_succ6 (upto_succ6 (upto_succ6 (upto_succ6 (upto_succ6 (upto_succ6 (upto_succ6 (upto_succ6 (upto_succ6 (upto_succ6 (upto_succ6 (upto_succ6 (upto_succ6 (upto_succ6 (upto_succ6 (upto_succ6 (blk6_60 h) (st6_60 h)) (st6_61 h)) (st6_62 h)) (st6_63 h)) (st6_64 h)) (st6_65 h)) (st6_66 h)) (st6_67 h)) (st6_68 h)) (st6_69 h)) (st6_70 h)) (st6_71 h)) (st6_72 h)) (st6_73 h)) (st6_74 h)) (st6_75 h)) (st6_76 h)) (st6_77 h)) (st6_78 h)) (st6_79 h))
theorem blk6_100 (h : c.Ok) : ∀ i, i < 100 → St c Q i := (upto_succ6 (upto_succ6 (upto_succ6 (upto_succ6 (upto_succ6 (upto_succ6 (upto_succ6 (upto_succ6 (upto_succ6 (upto_succ6 (upto_succ6 (upto_succ6 (upto_succ6 (upto_succ6 (upto_succ6 (upto_succ6 (upto_succ6 (upto_succ6 (upto_succ6 (upto_succ6 (blk6_80 h) (st6_80 h)) (st6_81 h)) (st6_82 h)) (st6_83 h)) (st6_84 h)) (st6_85 h)) (st6_86 h)) (st6_87 h)) (st6_88 h)) (st6_89 h)) (st6_90 h)) (st6_91 h)) (st6_92 h)) (st6_93 h)) (st6_94 h)) (st6_95 h)) (st6_96 h)) (st6_97 h)) (st6_98 h)) (st6_99 h))
theorem blk6_102 (h : c.Ok) : ∀ i, i < 102 → St c Q i := (upto_succ6 (upto_succ6 (blk6_100 h) (st6_100 h)) st6_101)

theorem size6 : ops6.size = 102 := by kernel_rfl
theorem forward6 : (ops6.toList.zipIdx.all fun x => x.1.after.all fun e => !Region.binds .any e || decide (e.on < x.2)) = true := by kernel_rfl
theorem all_on6 {listed : Array Bool} (h : Region.ready .any ops6 listed = []) (hs : listed.size = 102) : ∀ n i, i < n → i < 102 → On listed i := by
  intro n
  induction n with
  | zero => intro i hi; omega
  | succ n ih =>
    intro i hi h27
    refine Classical.byContradiction fun hno => ?_
    have hsz := size6
    have : i ∈ Region.ready .any ops6 listed := by
      refine mem_ready.2 ⟨?_, ops6[i]'(by omega), by simp, fun e he hb => ?_⟩
      · have e1 : listed.getD i false = (listed[i]?).getD false := by simp
        have e2 : listed.getD i true = (listed[i]?).getD true := by simp
        unfold On at hno
        rw [e1] at hno
        rw [e2]
        have : listed[i]? = some listed[i] := by simp
        rw [this] at hno ⊢
        simpa using hno
      · have hf := forward6
        rw [List.all_eq_true] at hf
        have hm : (ops6[i]'(by omega), i) ∈ ops6.toList.zipIdx := by
          rw [List.mem_zipIdx_iff_getElem?]
          simp
        have := hf _ hm
        simp only [Array.all_eq_true_iff_forall_mem] at this
        have := this e he
        rw [hb] at this
        simp at this
        exact ih e.on (by omega) (by omega)
    rw [h] at this
    cases this

/-- What the law's last region leaves. -/
theorem region_6 {a : Act} {W : World} (h : c.Ok) (hI : Inv6 c (Array.replicate 102 false) a { W with drawn := W.drawn + 1 })
    (hQ : ∀ a' W', a'.defers = [] → V a' 8 = .bool true → c.ten W' → Q .normal a' W') : (Code.region 6 ops6 true).wp Try.prog Q a W := by
  refine wp_region_any (by kernel_rfl) ?_
  rw [size6]
  refine wpAny_by (fun listed a W' => Inv6 c listed a W' ∧ listed.size = 102) ?_ ?_ 102 _ _ _ ?_ ⟨hI, by simp⟩
  · rintro listed a W' i ⟨h', hl⟩ hi
    have hlt : i < 102 := by
      obtain ⟨-, o, ho, -⟩ := mem_ready.1 hi
      have := (Array.getElem?_eq_some_iff.1 ho).1
      have hs := size6
      omega
    refine wpOp_mono ?_ (blk6_102 h i hlt listed a W' h' hi)
    intro a' W'' h''
    exact ⟨h'', by simpa using hl⟩
  · rintro listed a W' ⟨h', hl⟩ hr
    exact hQ a W' h'.defers (h'.last (all_on6 hr hl 102 101 (by omega) (by omega))) h'.ten
  · unfold left
    exact Nat.le_trans (List.length_filter_le _ _) (by rw [size6]; simp)
end Go.Proofs.Ytcgndnpnnfjgpaa
