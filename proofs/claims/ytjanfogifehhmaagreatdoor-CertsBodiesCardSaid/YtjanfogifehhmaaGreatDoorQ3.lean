/- The document's Same of two extensions: where it is soon told, 1. -/
import Derived.Test.YtjanfogifehhmaaGreatDoorAq
set_option maxRecDepth 100000
set_option maxHeartbeats 16000000
set_option linter.unusedVariables false
set_option linter.unusedSimpArgs false
namespace Go.Proofs.YtjanfogifehhmaaGreatDoor.nmc
open Go.RowKit tlvc tlvd ndc txc txm intc intm
theorem sameX_8 (b0 b1:Bool)(b2 b3:Int)(A4 B4:Option Addr)(L4 k4 j4:Nat)(A5 B5:Option Addr)(L5 k5 j5:Nat)(A6 B6:Option Addr)(L6 k6 j6:Nat)(A7 B7:Option Addr)(L7 k7 j7:Nat)(A8 B8:Option Addr)(L8 k8 j8 M8:Nat)(w:World)(h:L8≠M8):
 Calls Tryz.prog 32 #[.agg #[.bool b0,.bool b1,.int .i64 b2,.int .u16 b3,.slice A4 L4 k4,.slice A5 L5 k5,.slice A6 L6 k6,.slice A7 L7 k7,.slice A8 L8 k8],.agg #[.bool b0,.bool b1,.int .i64 b2,.int .u16 b3,.slice B4 L4 j4,.slice B5 L5 j5,.slice B6 L6 j6,.slice B7 L7 j7,.slice B8 M8 j8]] w fun e w'=>e=.returned (.bool false)∧Below w.heap.size w w':=by
 obtain⟨W0,hW0⟩:=nm_ ((w.alloc (.cells #[.bool b0,.bool b1,.int .i64 b2,.int .u16 b3,.slice A4 L4 k4,.slice A5 L5 k5,.slice A6 L6 k6,.slice A7 L7 k7,.slice A8 L8 k8] 30)).alloc (.cells #[.bool b0,.bool b1,.int .i64 b2,.int .u16 b3,.slice B4 L4 j4,.slice B5 L5 j5,.slice B6 L6 j6,.slice B7 L7 j7,.slice B8 M8 j8] 30))
 have hb0:Below w.heap.size w W0:=by rw[←hW0];exact(below_new _ _).alloc (by simp) _
 have p0:W0.heap[w.heap.size+1]? =some (.cells #[.bool b0,.bool b1,.int .i64 b2,.int .u16 b3,.slice B4 L4 j4,.slice B5 L5 j5,.slice B6 L6 j6,.slice B7 L7 j7,.slice B8 M8 j8] 30):=by rw[←hW0];exact heap_is (by simp)
 have q0:W0.heap[w.heap.size]? =some (.cells #[.bool b0,.bool b1,.int .i64 b2,.int .u16 b3,.slice A4 L4 k4,.slice A5 L5 k5,.slice A6 L6 k6,.slice A7 L7 k7,.slice A8 L8 k8] 30):=by rw[←hW0,heap_old_ _ _ (by simp)];exact heap_new_ _ _
 obtain⟨s0,s1,s2,s3,s4,s5,s6,s7,s8⟩:=box9 (br_ _ W0) q0
 obtain⟨t0,t1,t2,t3,t4,t5,t6,t7,t8⟩:=box9 (br_ _ W0) p0
 have HB:=hd_ hb0
 clear hb0 p0 q0
 have z0:(b0 !=b0)=false:=by simp
 have z1:(b1 !=b1)=false:=by simp
 have z2:(b2 !=b2)=false:=by simp
 have z3:(b3 !=b3)=false:=by simp
 have z4:((L4:Int) !=(L4:Int))=false:=by simp
 have z5:((L5:Int) !=(L5:Int))=false:=by simp
 have z6:((L6:Int) !=(L6:Int))=false:=by simp
 have z7:((L7:Int) !=(L7:Int))=false:=by simp
 have y8: ¬(L8:Int)=(M8:Int):=by omega
 have z8:((L8:Int) !=(M8:Int))=true:=by simpa using y8
 have x8:((L8:Int)==(M8:Int))=false:=by simpa using y8
 clear h
 go_enter Tryz.func32,Tryz.ntmps32
 go_wp2
 go_ret
 exact⟨rfl,HB.out⟩
theorem sameX_7 (b0 b1:Bool)(b2 b3:Int)(A4 B4:Option Addr)(L4 k4 j4:Nat)(A5 B5:Option Addr)(L5 k5 j5:Nat)(A6 B6:Option Addr)(L6 k6 j6:Nat)(A7 B7:Option Addr)(L7 k7 j7 M7:Nat)(A8 B8:Option Addr)(L8 k8 j8 M8:Nat)(w:World)(h:L7≠M7):
 Calls Tryz.prog 32 #[.agg #[.bool b0,.bool b1,.int .i64 b2,.int .u16 b3,.slice A4 L4 k4,.slice A5 L5 k5,.slice A6 L6 k6,.slice A7 L7 k7,.slice A8 L8 k8],.agg #[.bool b0,.bool b1,.int .i64 b2,.int .u16 b3,.slice B4 L4 j4,.slice B5 L5 j5,.slice B6 L6 j6,.slice B7 M7 j7,.slice B8 M8 j8]] w fun e w'=>e=.returned (.bool false)∧Below w.heap.size w w':=by
 obtain⟨W0,hW0⟩:=nm_ ((w.alloc (.cells #[.bool b0,.bool b1,.int .i64 b2,.int .u16 b3,.slice A4 L4 k4,.slice A5 L5 k5,.slice A6 L6 k6,.slice A7 L7 k7,.slice A8 L8 k8] 30)).alloc (.cells #[.bool b0,.bool b1,.int .i64 b2,.int .u16 b3,.slice B4 L4 j4,.slice B5 L5 j5,.slice B6 L6 j6,.slice B7 M7 j7,.slice B8 M8 j8] 30))
 have hb0:Below w.heap.size w W0:=by rw[←hW0];exact(below_new _ _).alloc (by simp) _
 have p0:W0.heap[w.heap.size+1]? =some (.cells #[.bool b0,.bool b1,.int .i64 b2,.int .u16 b3,.slice B4 L4 j4,.slice B5 L5 j5,.slice B6 L6 j6,.slice B7 M7 j7,.slice B8 M8 j8] 30):=by rw[←hW0];exact heap_is (by simp)
 have q0:W0.heap[w.heap.size]? =some (.cells #[.bool b0,.bool b1,.int .i64 b2,.int .u16 b3,.slice A4 L4 k4,.slice A5 L5 k5,.slice A6 L6 k6,.slice A7 L7 k7,.slice A8 L8 k8] 30):=by rw[←hW0,heap_old_ _ _ (by simp)];exact heap_new_ _ _
 obtain⟨s0,s1,s2,s3,s4,s5,s6,s7,s8⟩:=box9 (br_ _ W0) q0
 obtain⟨t0,t1,t2,t3,t4,t5,t6,t7,t8⟩:=box9 (br_ _ W0) p0
 have HB:=hd_ hb0
 clear hb0 p0 q0 s8 t8
 have z0:(b0 !=b0)=false:=by simp
 have z1:(b1 !=b1)=false:=by simp
 have z2:(b2 !=b2)=false:=by simp
 have z3:(b3 !=b3)=false:=by simp
 have z4:((L4:Int) !=(L4:Int))=false:=by simp
 have z5:((L5:Int) !=(L5:Int))=false:=by simp
 have z6:((L6:Int) !=(L6:Int))=false:=by simp
 have y7: ¬(L7:Int)=(M7:Int):=by omega
 have z7:((L7:Int) !=(M7:Int))=true:=by simpa using y7
 have x7:((L7:Int)==(M7:Int))=false:=by simpa using y7
 clear h
 go_enter Tryz.func32,Tryz.ntmps32
 go_wp2
 go_ret
 exact⟨rfl,HB.out⟩
theorem sameX_6 (b0 b1:Bool)(b2 b3:Int)(A4 B4:Option Addr)(L4 k4 j4:Nat)(A5 B5:Option Addr)(L5 k5 j5:Nat)(A6 B6:Option Addr)(L6 k6 j6 M6:Nat)(A7 B7:Option Addr)(L7 k7 j7 M7:Nat)(A8 B8:Option Addr)(L8 k8 j8 M8:Nat)(w:World)(h:L6≠M6):
 Calls Tryz.prog 32 #[.agg #[.bool b0,.bool b1,.int .i64 b2,.int .u16 b3,.slice A4 L4 k4,.slice A5 L5 k5,.slice A6 L6 k6,.slice A7 L7 k7,.slice A8 L8 k8],.agg #[.bool b0,.bool b1,.int .i64 b2,.int .u16 b3,.slice B4 L4 j4,.slice B5 L5 j5,.slice B6 M6 j6,.slice B7 M7 j7,.slice B8 M8 j8]] w fun e w'=>e=.returned (.bool false)∧Below w.heap.size w w':=by
 obtain⟨W0,hW0⟩:=nm_ ((w.alloc (.cells #[.bool b0,.bool b1,.int .i64 b2,.int .u16 b3,.slice A4 L4 k4,.slice A5 L5 k5,.slice A6 L6 k6,.slice A7 L7 k7,.slice A8 L8 k8] 30)).alloc (.cells #[.bool b0,.bool b1,.int .i64 b2,.int .u16 b3,.slice B4 L4 j4,.slice B5 L5 j5,.slice B6 M6 j6,.slice B7 M7 j7,.slice B8 M8 j8] 30))
 have hb0:Below w.heap.size w W0:=by rw[←hW0];exact(below_new _ _).alloc (by simp) _
 have p0:W0.heap[w.heap.size+1]? =some (.cells #[.bool b0,.bool b1,.int .i64 b2,.int .u16 b3,.slice B4 L4 j4,.slice B5 L5 j5,.slice B6 M6 j6,.slice B7 M7 j7,.slice B8 M8 j8] 30):=by rw[←hW0];exact heap_is (by simp)
 have q0:W0.heap[w.heap.size]? =some (.cells #[.bool b0,.bool b1,.int .i64 b2,.int .u16 b3,.slice A4 L4 k4,.slice A5 L5 k5,.slice A6 L6 k6,.slice A7 L7 k7,.slice A8 L8 k8] 30):=by rw[←hW0,heap_old_ _ _ (by simp)];exact heap_new_ _ _
 obtain⟨s0,s1,s2,s3,s4,s5,s6,s7,s8⟩:=box9 (br_ _ W0) q0
 obtain⟨t0,t1,t2,t3,t4,t5,t6,t7,t8⟩:=box9 (br_ _ W0) p0
 have HB:=hd_ hb0
 clear hb0 p0 q0 s7 t7 s8 t8
 have z0:(b0 !=b0)=false:=by simp
 have z1:(b1 !=b1)=false:=by simp
 have z2:(b2 !=b2)=false:=by simp
 have z3:(b3 !=b3)=false:=by simp
 have z4:((L4:Int) !=(L4:Int))=false:=by simp
 have z5:((L5:Int) !=(L5:Int))=false:=by simp
 have y6: ¬(L6:Int)=(M6:Int):=by omega
 have z6:((L6:Int) !=(M6:Int))=true:=by simpa using y6
 have x6:((L6:Int)==(M6:Int))=false:=by simpa using y6
 clear h
 go_enter Tryz.func32,Tryz.ntmps32
 go_wp2
 go_ret
 exact⟨rfl,HB.out⟩
theorem sameX_5 (b0 b1:Bool)(b2 b3:Int)(A4 B4:Option Addr)(L4 k4 j4:Nat)(A5 B5:Option Addr)(L5 k5 j5 M5:Nat)(A6 B6:Option Addr)(L6 k6 j6 M6:Nat)(A7 B7:Option Addr)(L7 k7 j7 M7:Nat)(A8 B8:Option Addr)(L8 k8 j8 M8:Nat)(w:World)(h:L5≠M5):
 Calls Tryz.prog 32 #[.agg #[.bool b0,.bool b1,.int .i64 b2,.int .u16 b3,.slice A4 L4 k4,.slice A5 L5 k5,.slice A6 L6 k6,.slice A7 L7 k7,.slice A8 L8 k8],.agg #[.bool b0,.bool b1,.int .i64 b2,.int .u16 b3,.slice B4 L4 j4,.slice B5 M5 j5,.slice B6 M6 j6,.slice B7 M7 j7,.slice B8 M8 j8]] w fun e w'=>e=.returned (.bool false)∧Below w.heap.size w w':=by
 obtain⟨W0,hW0⟩:=nm_ ((w.alloc (.cells #[.bool b0,.bool b1,.int .i64 b2,.int .u16 b3,.slice A4 L4 k4,.slice A5 L5 k5,.slice A6 L6 k6,.slice A7 L7 k7,.slice A8 L8 k8] 30)).alloc (.cells #[.bool b0,.bool b1,.int .i64 b2,.int .u16 b3,.slice B4 L4 j4,.slice B5 M5 j5,.slice B6 M6 j6,.slice B7 M7 j7,.slice B8 M8 j8] 30))
 have hb0:Below w.heap.size w W0:=by rw[←hW0];exact(below_new _ _).alloc (by simp) _
 have p0:W0.heap[w.heap.size+1]? =some (.cells #[.bool b0,.bool b1,.int .i64 b2,.int .u16 b3,.slice B4 L4 j4,.slice B5 M5 j5,.slice B6 M6 j6,.slice B7 M7 j7,.slice B8 M8 j8] 30):=by rw[←hW0];exact heap_is (by simp)
 have q0:W0.heap[w.heap.size]? =some (.cells #[.bool b0,.bool b1,.int .i64 b2,.int .u16 b3,.slice A4 L4 k4,.slice A5 L5 k5,.slice A6 L6 k6,.slice A7 L7 k7,.slice A8 L8 k8] 30):=by rw[←hW0,heap_old_ _ _ (by simp)];exact heap_new_ _ _
 obtain⟨s0,s1,s2,s3,s4,s5,s6,s7,s8⟩:=box9 (br_ _ W0) q0
 obtain⟨t0,t1,t2,t3,t4,t5,t6,t7,t8⟩:=box9 (br_ _ W0) p0
 have HB:=hd_ hb0
 clear hb0 p0 q0 s6 t6 s7 t7 s8 t8
 have z0:(b0 !=b0)=false:=by simp
 have z1:(b1 !=b1)=false:=by simp
 have z2:(b2 !=b2)=false:=by simp
 have z3:(b3 !=b3)=false:=by simp
 have z4:((L4:Int) !=(L4:Int))=false:=by simp
 have y5: ¬(L5:Int)=(M5:Int):=by omega
 have z5:((L5:Int) !=(M5:Int))=true:=by simpa using y5
 have x5:((L5:Int)==(M5:Int))=false:=by simpa using y5
 clear h
 go_enter Tryz.func32,Tryz.ntmps32
 go_wp2
 go_ret
 exact⟨rfl,HB.out⟩
theorem sameX_4 (b0 b1:Bool)(b2 b3:Int)(A4 B4:Option Addr)(L4 k4 j4 M4:Nat)(A5 B5:Option Addr)(L5 k5 j5 M5:Nat)(A6 B6:Option Addr)(L6 k6 j6 M6:Nat)(A7 B7:Option Addr)(L7 k7 j7 M7:Nat)(A8 B8:Option Addr)(L8 k8 j8 M8:Nat)(w:World)(h:L4≠M4):
 Calls Tryz.prog 32 #[.agg #[.bool b0,.bool b1,.int .i64 b2,.int .u16 b3,.slice A4 L4 k4,.slice A5 L5 k5,.slice A6 L6 k6,.slice A7 L7 k7,.slice A8 L8 k8],.agg #[.bool b0,.bool b1,.int .i64 b2,.int .u16 b3,.slice B4 M4 j4,.slice B5 M5 j5,.slice B6 M6 j6,.slice B7 M7 j7,.slice B8 M8 j8]] w fun e w'=>e=.returned (.bool false)∧Below w.heap.size w w':=by
 obtain⟨W0,hW0⟩:=nm_ ((w.alloc (.cells #[.bool b0,.bool b1,.int .i64 b2,.int .u16 b3,.slice A4 L4 k4,.slice A5 L5 k5,.slice A6 L6 k6,.slice A7 L7 k7,.slice A8 L8 k8] 30)).alloc (.cells #[.bool b0,.bool b1,.int .i64 b2,.int .u16 b3,.slice B4 M4 j4,.slice B5 M5 j5,.slice B6 M6 j6,.slice B7 M7 j7,.slice B8 M8 j8] 30))
 have hb0:Below w.heap.size w W0:=by rw[←hW0];exact(below_new _ _).alloc (by simp) _
 have p0:W0.heap[w.heap.size+1]? =some (.cells #[.bool b0,.bool b1,.int .i64 b2,.int .u16 b3,.slice B4 M4 j4,.slice B5 M5 j5,.slice B6 M6 j6,.slice B7 M7 j7,.slice B8 M8 j8] 30):=by rw[←hW0];exact heap_is (by simp)
 have q0:W0.heap[w.heap.size]? =some (.cells #[.bool b0,.bool b1,.int .i64 b2,.int .u16 b3,.slice A4 L4 k4,.slice A5 L5 k5,.slice A6 L6 k6,.slice A7 L7 k7,.slice A8 L8 k8] 30):=by rw[←hW0,heap_old_ _ _ (by simp)];exact heap_new_ _ _
 obtain⟨s0,s1,s2,s3,s4,s5,s6,s7,s8⟩:=box9 (br_ _ W0) q0
 obtain⟨t0,t1,t2,t3,t4,t5,t6,t7,t8⟩:=box9 (br_ _ W0) p0
 have HB:=hd_ hb0
 clear hb0 p0 q0 s5 t5 s6 t6 s7 t7 s8 t8
 have z0:(b0 !=b0)=false:=by simp
 have z1:(b1 !=b1)=false:=by simp
 have z2:(b2 !=b2)=false:=by simp
 have z3:(b3 !=b3)=false:=by simp
 have y4: ¬(L4:Int)=(M4:Int):=by omega
 have z4:((L4:Int) !=(M4:Int))=true:=by simpa using y4
 have x4:((L4:Int)==(M4:Int))=false:=by simpa using y4
 clear h
 go_enter Tryz.func32,Tryz.ntmps32
 go_wp2
 go_ret
 exact⟨rfl,HB.out⟩
theorem sameX_3 (b0 b1:Bool)(b2 b3:Int)(e3:Int)(A4 B4:Option Addr)(L4 k4 j4 M4:Nat)(A5 B5:Option Addr)(L5 k5 j5 M5:Nat)(A6 B6:Option Addr)(L6 k6 j6 M6:Nat)(A7 B7:Option Addr)(L7 k7 j7 M7:Nat)(A8 B8:Option Addr)(L8 k8 j8 M8:Nat)(w:World)(h:b3≠e3):
 Calls Tryz.prog 32 #[.agg #[.bool b0,.bool b1,.int .i64 b2,.int .u16 b3,.slice A4 L4 k4,.slice A5 L5 k5,.slice A6 L6 k6,.slice A7 L7 k7,.slice A8 L8 k8],.agg #[.bool b0,.bool b1,.int .i64 b2,.int .u16 e3,.slice B4 M4 j4,.slice B5 M5 j5,.slice B6 M6 j6,.slice B7 M7 j7,.slice B8 M8 j8]] w fun e w'=>e=.returned (.bool false)∧Below w.heap.size w w':=by
 obtain⟨W0,hW0⟩:=nm_ ((w.alloc (.cells #[.bool b0,.bool b1,.int .i64 b2,.int .u16 b3,.slice A4 L4 k4,.slice A5 L5 k5,.slice A6 L6 k6,.slice A7 L7 k7,.slice A8 L8 k8] 30)).alloc (.cells #[.bool b0,.bool b1,.int .i64 b2,.int .u16 e3,.slice B4 M4 j4,.slice B5 M5 j5,.slice B6 M6 j6,.slice B7 M7 j7,.slice B8 M8 j8] 30))
 have hb0:Below w.heap.size w W0:=by rw[←hW0];exact(below_new _ _).alloc (by simp) _
 have p0:W0.heap[w.heap.size+1]? =some (.cells #[.bool b0,.bool b1,.int .i64 b2,.int .u16 e3,.slice B4 M4 j4,.slice B5 M5 j5,.slice B6 M6 j6,.slice B7 M7 j7,.slice B8 M8 j8] 30):=by rw[←hW0];exact heap_is (by simp)
 have q0:W0.heap[w.heap.size]? =some (.cells #[.bool b0,.bool b1,.int .i64 b2,.int .u16 b3,.slice A4 L4 k4,.slice A5 L5 k5,.slice A6 L6 k6,.slice A7 L7 k7,.slice A8 L8 k8] 30):=by rw[←hW0,heap_old_ _ _ (by simp)];exact heap_new_ _ _
 obtain⟨s0,s1,s2,s3,s4,s5,s6,s7,s8⟩:=box9 (br_ _ W0) q0
 obtain⟨t0,t1,t2,t3,t4,t5,t6,t7,t8⟩:=box9 (br_ _ W0) p0
 have HB:=hd_ hb0
 clear hb0 p0 q0 s4 t4 s5 t5 s6 t6 s7 t7 s8 t8
 have z0:(b0 !=b0)=false:=by simp
 have z1:(b1 !=b1)=false:=by simp
 have z2:(b2 !=b2)=false:=by simp
 have y3: ¬b3=e3:=h
 have z3:(b3 !=e3)=true:=by simpa using y3
 have x3:(b3==e3)=false:=by simpa using y3
 clear h
 go_enter Tryz.func32,Tryz.ntmps32
 go_wp2
 go_ret
 exact⟨rfl,HB.out⟩
end Go.Proofs.YtjanfogifehhmaaGreatDoor.nmc
