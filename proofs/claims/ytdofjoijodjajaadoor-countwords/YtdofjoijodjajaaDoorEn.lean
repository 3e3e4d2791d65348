/- Each function of the project is entered by a call of it. Written by a script (tools/laws). -/
import Derived.Test.YtdofjoijodjajaaDoorBK
namespace Go.Proofs.YtdofjoijodjajaaDoor.Z
open Go.RowKit Go.Proofs.YtdofjoijodjajaaDoor.Rg
set_option linter.unusedVariables false
theorem mo:Tryd.prog.follows .mixedOrders=true:=by kernel_rfl
theorem en3:Enters Tryd.prog 3:=enters_of Tryd.func3 (by kernel_rfl) rfl
theorem en4:Enters Tryd.prog 4:=enters_of Tryd.func4 (by kernel_rfl) rfl
theorem en5:Enters Tryd.prog 5:=enters_of Tryd.func5 (by kernel_rfl) rfl
theorem en6:Enters Tryd.prog 6:=enters_of Tryd.func6 (by kernel_rfl) rfl
theorem en7:Enters Tryd.prog 7:=enters_of Tryd.func7 (by kernel_rfl) rfl
theorem en8:Enters Tryd.prog 8:=enters_of Tryd.func8 (by kernel_rfl) rfl
theorem en9:Enters Tryd.prog 9:=enters_of Tryd.func9 (by kernel_rfl) rfl
theorem en10:Enters Tryd.prog 10:=enters_of Tryd.func10 (by kernel_rfl) rfl
theorem en11:Enters Tryd.prog 11:=enters_of Tryd.func11 (by kernel_rfl) rfl
theorem en12:Enters Tryd.prog 12:=enters_of Tryd.func12 (by kernel_rfl) rfl
theorem en13:Enters Tryd.prog 13:=enters_of Tryd.func13 (by kernel_rfl) rfl
theorem en14:Enters Tryd.prog 14:=enters_of Tryd.func14 (by kernel_rfl) rfl
theorem en15:Enters Tryd.prog 15:=enters_of Tryd.func15 (by kernel_rfl) rfl
theorem en16:Enters Tryd.prog 16:=enters_of Tryd.func16 (by kernel_rfl) rfl
theorem en17:Enters Tryd.prog 17:=enters_of Tryd.func17 (by kernel_rfl) rfl
theorem en18:Enters Tryd.prog 18:=enters_of Tryd.func18 (by kernel_rfl) rfl
theorem en19:Enters Tryd.prog 19:=enters_of Tryd.func19 (by kernel_rfl) rfl
theorem en20:Enters Tryd.prog 20:=enters_of Tryd.func20 (by kernel_rfl) rfl
theorem en21:Enters Tryd.prog 21:=enters_of Tryd.func21 (by kernel_rfl) rfl
theorem en22:Enters Tryd.prog 22:=enters_of Tryd.func22 (by kernel_rfl) rfl
theorem en23:Enters Tryd.prog 23:=enters_of Tryd.func23 (by kernel_rfl) rfl
theorem en24:Enters Tryd.prog 24:=enters_of Tryd.func24 (by kernel_rfl) rfl
theorem en25:Enters Tryd.prog 25:=enters_of Tryd.func25 (by kernel_rfl) rfl
theorem en26:Enters Tryd.prog 26:=enters_of Tryd.func26 (by kernel_rfl) rfl
theorem en27:Enters Tryd.prog 27:=enters_of Tryd.func27 (by kernel_rfl) rfl
theorem en28:Enters Tryd.prog 28:=enters_of Tryd.func28 (by kernel_rfl) rfl
theorem en29:Enters Tryd.prog 29:=enters_of Tryd.func29 (by kernel_rfl) rfl
theorem en30:Enters Tryd.prog 30:=enters_of Tryd.func30 (by kernel_rfl) rfl
theorem en31:Enters Tryd.prog 31:=enters_of Tryd.func31 (by kernel_rfl) rfl
theorem en32:Enters Tryd.prog 32:=enters_of Tryd.func32 (by kernel_rfl) rfl
theorem en33:Enters Tryd.prog 33:=enters_of Tryd.func33 (by kernel_rfl) rfl
theorem en34:Enters Tryd.prog 34:=enters_of Tryd.func34 (by kernel_rfl) rfl
theorem en35:Enters Tryd.prog 35:=enters_of Tryd.func35 (by kernel_rfl) rfl
theorem en36:Enters Tryd.prog 36:=enters_of Tryd.func36 (by kernel_rfl) rfl
theorem en37:Enters Tryd.prog 37:=enters_of Tryd.func37 (by kernel_rfl) rfl
theorem en38:Enters Tryd.prog 38:=enters_of Tryd.func38 (by kernel_rfl) rfl
theorem en39:Enters Tryd.prog 39:=enters_of Tryd.func39 (by kernel_rfl) rfl
theorem en40:Enters Tryd.prog 40:=enters_of Tryd.func40 (by kernel_rfl) rfl
theorem en41:Enters Tryd.prog 41:=enters_of Tryd.func41 (by kernel_rfl) rfl
theorem en42:Enters Tryd.prog 42:=enters_of Tryd.func42 (by kernel_rfl) rfl
theorem en43:Enters Tryd.prog 43:=enters_of Tryd.func43 (by kernel_rfl) rfl
theorem en44:Enters Tryd.prog 44:=enters_of Tryd.func44 (by kernel_rfl) rfl
theorem en45:Enters Tryd.prog 45:=enters_of Tryd.func45 (by kernel_rfl) rfl
theorem en46:Enters Tryd.prog 46:=enters_of Tryd.func46 (by kernel_rfl) rfl
theorem en47:Enters Tryd.prog 47:=enters_of Tryd.func47 (by kernel_rfl) rfl
theorem en48:Enters Tryd.prog 48:=enters_of Tryd.func48 (by kernel_rfl) rfl
theorem en49:Enters Tryd.prog 49:=enters_of Tryd.func49 (by kernel_rfl) rfl
theorem en50:Enters Tryd.prog 50:=enters_of Tryd.func50 (by kernel_rfl) rfl
theorem en51:Enters Tryd.prog 51:=enters_of Tryd.func51 (by kernel_rfl) rfl
theorem en52:Enters Tryd.prog 52:=enters_of Tryd.func52 (by kernel_rfl) rfl
theorem en53:Enters Tryd.prog 53:=enters_of Tryd.func53 (by kernel_rfl) rfl
theorem en54:Enters Tryd.prog 54:=enters_of Tryd.func54 (by kernel_rfl) rfl
theorem en55:Enters Tryd.prog 55:=enters_of Tryd.func55 (by kernel_rfl) rfl
theorem en56:Enters Tryd.prog 56:=enters_of Tryd.func56 (by kernel_rfl) rfl
theorem en62:Enters Tryd.prog 62:=enters_of Tryd.func62 (by kernel_rfl) rfl
theorem en64:Enters Tryd.prog 64:=enters_of Tryd.func64 (by kernel_rfl) rfl
theorem en65:Enters Tryd.prog 65:=enters_of Tryd.func65 (by kernel_rfl) rfl
theorem en66:Enters Tryd.prog 66:=enters_of Tryd.func66 (by kernel_rfl) rfl
theorem en68:Enters Tryd.prog 68:=enters_of Tryd.func68 (by kernel_rfl) rfl
theorem en69:Enters Tryd.prog 69:=enters_of Tryd.func69 (by kernel_rfl) rfl
theorem en70:Enters Tryd.prog 70:=enters_of Tryd.func70 (by kernel_rfl) rfl
theorem en71:Enters Tryd.prog 71:=enters_of Tryd.func71 (by kernel_rfl) rfl
theorem en73:Enters Tryd.prog 73:=enters_of Tryd.func73 (by kernel_rfl) rfl
theorem en79:Enters Tryd.prog 79:=enters_of Tryd.func79 (by kernel_rfl) rfl
theorem en80:Enters Tryd.prog 80:=enters_of Tryd.func80 (by kernel_rfl) rfl
theorem en81:Enters Tryd.prog 81:=enters_of Tryd.func81 (by kernel_rfl) rfl
theorem en85:Enters Tryd.prog 85:=enters_of Tryd.func85 (by kernel_rfl) rfl
theorem en89:Enters Tryd.prog 89:=enters_of Tryd.func89 (by kernel_rfl) rfl
end Go.Proofs.YtdofjoijodjajaaDoor.Z
