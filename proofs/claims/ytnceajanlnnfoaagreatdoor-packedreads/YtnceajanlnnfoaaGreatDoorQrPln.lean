/-Packed: known, the walk. -/
import Derived.Test.YtnceajanlnnfoaaGreatDoorQrPlg
import Derived.Test.YtnceajanlnnfoaaGreatDoorQrPlh
set_option maxRecDepth 20000
set_option maxHeartbeats 16000000
namespace Go.Proofs.YtnceajanlnnfoaaGreatDoor
open Go.RowKit Go.Maps Go.Sort Go.Lib Go.Shelf
def ct15:Ct:=⟨1,⟨1,4609434218613702656,⟨#[]⟩,false,0⟩,zNd⟩
def LK15:List Cc:=[((1,1),ct15)]
theorem gv15:gv ct15=true:=by
 unfold gv Q7;have h1:F8 ct15.v=true:=by simp[F8,ct15]
 have h2:G8 ct15.t=true:=jFS;simp[G5,h1,h2];simp[ct15]
theorem cp15:cpC ct15=ct15:=by
 unfold cpC ct15;simp only[j3n]
 congr 1
theorem gd15:Gd ct15:=⟨gv15,by show (1:Int)≠0;decide,j3K,by decide,by show zNd.size<=_;rw[j72];decide,cp15⟩
theorem ok15:Ok17 LK15:=⟨fun x hx=>by obtain rfl:=List.mem_singleton.1 hx;exact gd15,fun x hx=>by obtain rfl:=List.mem_singleton.1 hx;decide,by decide⟩
theorem st15:D7 (LK15.map (·.1)):=by unfold D7 LK15;simp
theorem cs15:cB ((1,1),ct15)=[1,0,1,0,1,1,0,0,0,0,0,0,248,63]:=by decide +kernel
theorem j3W:D6 LK15=[81,68,82,49,1,0,1,0,1,0,1,1,0,0,0,0,0,0,248,63]:=by
 unfold D6 csB LK15;rw[List.flatMap_cons,List.flatMap_nil,List.append_nil,cs15];decide
theorem j1E:(D2 LK15).length=24:=by rw[X7,j3W];rfl
theorem jEL:(D2 LK15).take 20=[81,68,82,49,1,0,1,0,1,0,1,1,0,0,0,0,0,0,248,63]:=by
 have:D2 LK15=D6 LK15++le 4 (crcS (D6 LK15)):=rfl;rw[this,j3W];exact List.take_left (l₁:=[81,68,82,49,1,0,1,0,1,0,1,1,0,0,0,0,0,0,248,63])
theorem pk15:pkS LK15=D2 LK15/\pkE LK15=0:=by
 unfold pkS pkE;rw[if_pos (by rw[j1E];decide),if_pos (by rw[j1E];decide)];exact⟨rfl,rfl⟩
theorem up15:upO (D2 LK15)=some LK15/\upR (D2 LK15)=0:=j6V st15 ok15 (by rw[j1E];decide)
theorem sgl1:sW 1 4607182418800017408=1065353216/\sI 1 4607182418800017408=false:=by decide +kernel
theorem sgl2:sW 1 4591870180066957722=1036831949/\sI 1 4591870180066957722=true:=by decide +kernel
theorem sg15:sgE 1 2=0/\sgS 1 [4607182418800017408,4591870180066957722]=[0,0,128,63,205,204,204,61]/\sgN 1 [4607182418800017408,4591870180066957722]=1:=by
 have e0:sgE 1 2=0:=by decide
 refine⟨e0,?_,?_⟩
 ·unfold sgS;rw[if_pos (show sgE 1 [4607182418800017408,4591870180066957722].length=0 from e0)];unfold snB;rw[List.flatMap_cons,List.flatMap_cons,List.flatMap_nil,sgl1.1,sgl2.1];decide
 ·unfold sgN;rw[if_pos (show sgE 1 [4607182418800017408,4591870180066957722].length=0 from e0)];unfold snI;rw[List.filter_cons,sgl1.2,List.filter_cons,sgl2.2]
  rfl
theorem j9C (L:List Cc):eqC L L=true:=j4E ⟨rfl,fun _ a h=>⟨a,h,j3t a⟩⟩
theorem jB3 (g:Nat)(w:World):(binOp .neq 23 (.pointer (some ⟨g,0,none⟩)) (.pointer none)).run Tryz.prog w=.ok (.bool true) w:=by
 simp[go_sem]
theorem jAE (w:World)(U:VS w)(hs:Sh w)(hT:Tab w):Calls Tryz.prog 10 #[] w fun e w'=>e=.returned (.bool true)/\Kp w w' Nul:=by
 obtain⟨g,hgw⟩:∃g,g=w.heap.size:=⟨_,rfl⟩;have HNew:Hid (Calls Tryz.prog 24 #[] w fun e w'=>e=.returned (.pointer (some ⟨g,0,none⟩))/\GI w.heap.size w' g []/\Kp w w' Nul):=(j4v w).mono (by
  rintro e w' ⟨rfl,rfl⟩;subst hgw;exact⟨rfl,j4T w _ (Nat.le_refl _),(Kp.refl w Nul).alloc _⟩)
 have HPut:Hid (∀wq,GI w.heap.size wq g []->Kp w wq Nul->Calls Tryz.prog 25 #[.pointer (some ⟨g,0,none⟩),.agg #[.int .i64 1,.int .i64 1],ct15.val (.slice none 0 0)] wq fun e w'=>e=.returned (.int .i64 0)/\GI w.heap.size w' g LK15/\Kp w w' Nul):=fun wq h k=>(jBv w g 1 1 ct15 (.slice none 0 0) [] wq h k Ok17.nil gd15 (by decide) (j3J _ _) (by decide) U).mono fun e w' h=>⟨h.1,h.2.1,h.2.2.2⟩
 have HPack:Hid (∀wq,GI w.heap.size wq g LK15->Kp w wq Nul->Calls Tryz.prog 7 #[.pointer (some ⟨g,0,none⟩)] wq fun e w'=>e=.returned (.tuple #[.string ⟨(D2 LK15).toArray⟩,.int .i64 0])/\Kp wq w' Nul):=fun wq h k=>(jBg g LK15 LK15 wq (j9.mono h (fun _ _=>Nat.zero_le _)) ok15 st15 (fun _=>Iff.rfl) rfl (hs.kp k (fun x=>x))).mono fun e w' h=>by
  rw[pk15.1,pk15.2] at h;exact h
 have HUn:Hid (∀wq,Kp w wq Nul->Calls Tryz.prog 40 #[.string ⟨(D2 LK15).toArray⟩] wq fun e w'=>∃g2,e=.returned (.tuple #[.pointer (some ⟨g2,0,none⟩),.int .i64 0])/\GI 0 w' g2 LK15/\Kp wq w' Nul):=fun wq k=>(j6U (D2 LK15) wq (hs.kp k (fun x=>x)) (U.kp k)).mono fun e w' h=>by
  rw[up15.1,up15.2] at h;cases h with
  | ok gi kp=>exact⟨_,rfl,j9.mono gi (fun _ _=>Nat.zero_le _),kp⟩
 have HSg:Hid (∀v wq,Kp w wq Nul->FlAt wq v [4607182418800017408,4591870180066957722]->Calls Tryz.prog 14 #[v,.int .i64 1] wq fun e w'=>e=.returned (.tuple #[.string ⟨#[0,0,128,63,205,204,204,61]⟩,.int .i64 1,.int .i64 0])/\Kp wq w' Nul):=fun v wq k hf=>(jE1 v _ 1 wq hf (fun j hj=>k.cellN (hT j hj) (fun x=>x))).mono fun e w' h=>by
  rw[sg15.2.1,sg15.2.2,show [4607182418800017408,4591870180066957722].length=2 from rfl,sg15.1] at h;exact h
 have HEq:Hid (∀g2 wq,GI 0 wq g2 LK15->GI 0 wq g LK15->Calls Tryz.prog 41 #[.pointer (some ⟨g2,0,none⟩),.pointer (some ⟨g,0,none⟩)] wq fun e w'=>e=.returned (.bool true)/\Kp wq w' Nul):=fun g2 wq h1 h2=>(j9J g2 g LK15 LK15 wq h1 h2 ok15.okC ok15.okC).mono fun e w' h=>by
  rw[j9C] at h;exact h
 have hng:=fun wq=>j2d g wq
 have HLen:Hid (((ByteArray.mk (D2 LK15).toArray).size:Int)=24):=by show (((D2 LK15).toArray.size:Nat):Int)=24;rw[List.size_toArray,j1E];rfl
 have HTk:Hid ((ByteArray.mk (D2 LK15).toArray).extract 0 20=⟨#[81,68,82,49,1,0,1,0,1,0,1,1,0,0,0,0,0,0,248,63]⟩):=by show _=_;rw[j01,jEL]
 generalize (ByteArray.mk (D2 LK15).toArray)=F at *;clear hgw U hs hT;go_enter Tryz.func10,Tryz.ntmps10;go_wp2_with fail;refine HNew.out.mono ?_;rintro e w1 ⟨rfl,hg1,hk1⟩;have HG1:Hid (GI w.heap.size w1 g []):=hg1;have HK1:Hid (Kp w w1 Nul):=hk1;clear hg1 hk1 HNew;go_wp2_with fail;refine(HPut.out _ HG1.out HK1.out).mono ?_;rintro e w2 ⟨rfl,hg2,hk2⟩;have HG2:Hid (GI w.heap.size w2 g LK15):=hg2;have HK2:Hid (Kp w w2 Nul):=hk2;clear hg2 hk2 HG1 HK1 HPut;go_wp2_with fail;refine(HPack.out _ HG2.out HK2.out).mono ?_;rintro e w3 ⟨rfl,hk3⟩;have HG3:Hid (GI w.heap.size w3 g LK15):=HG2.out.kp hk3;have HK3:Hid (Kp w w3 Nul):=HK2.out.trans hk3;clear hk3 HG2 HK2 HPack;go_wp2_with fail;refine(HUn.out _ HK3.out).mono ?_;rintro e w4 ⟨g2,rfl,hgu,hk4⟩;have HG4:Hid (GI w.heap.size w4 g LK15/\GI 0 w4 g2 LK15):=⟨HG3.out.kp hk4,hgu⟩;have HK4:Hid (Kp w w4 Nul):=HK3.out.trans hk4
 have hn2:=fun wq=>jB3 g2 wq
 clear hk4 hgu HG3 HK3 HUn;go_wp2_with fail;have hk5:Kp w4 (w4.alloc (.cells #[.float .f64 4607182418800017408,.float .f64 4591870180066957722] 50)) Nul:=(Kp.refl _ _).alloc _;have HFA:Hid (FlAt (w4.alloc (.cells #[.float .f64 4607182418800017408,.float .f64 4591870180066957722] 50)) (.slice (some ⟨w4.heap.size,0,none⟩) 2 2) [4607182418800017408,4591870180066957722]):=by
  have hb:Blk (w4.alloc (.cells #[.float .f64 4607182418800017408,.float .f64 4591870180066957722] 50)) w4.heap.size [.float .f64 4607182418800017408,.float .f64 4591870180066957722] 50:=Blk.new w4 _ _;refine⟨_,2,rfl,fun i x hx=>?_⟩
  match i,hx with
  | 0,hx=>injection hx with hx;subst hx;exact⟨by decide,w4.heap.size,0,rfl,hb.lt,hb.cell rfl⟩
  | 1,hx=>injection hx with hx;subst hx;exact⟨by decide,w4.heap.size,0,rfl,hb.lt,hb.cell rfl⟩
 have HK5:Hid (Kp w (w4.alloc (.cells #[.float .f64 4607182418800017408,.float .f64 4591870180066957722] 50)) Nul):=HK4.out.trans hk5;have HG5:Hid (GI w.heap.size (w4.alloc (.cells #[.float .f64 4607182418800017408,.float .f64 4591870180066957722] 50)) g LK15/\GI 0 (w4.alloc (.cells #[.float .f64 4607182418800017408,.float .f64 4591870180066957722] 50)) g2 LK15):=⟨HG4.out.1.kp hk5,HG4.out.2.kp hk5⟩;clear hk5 HG4 HK4;generalize (w4.alloc (.cells #[.float .f64 4607182418800017408,.float .f64 4591870180066957722] 50))=w5 at *;refine(HSg.out _ _ HK5.out HFA.out).mono ?_;rintro e w6 ⟨rfl,hk6⟩;have HG6:Hid (GI 0 w6 g LK15/\GI 0 w6 g2 LK15):=⟨j9.mono (HG5.out.1.kp hk6) (fun _ _=>Nat.zero_le _),HG5.out.2.kp hk6⟩;have HK6:Hid (Kp w w6 Nul):=HK5.out.trans hk6;have hln:(F.size:Int)=24:=HLen.out;clear hk6 HG5 HK5 HFA HSg;go_wp2_with (first|(simp only[HTk.out])|fail)
 refine(HEq.out _ _ HG6.out.2 HG6.out.1).mono ?_;rintro e w7 ⟨rfl,hk7⟩;have HK7:Hid (Kp w w7 Nul):=HK6.out.trans hk7;clear hk7 HG6 HK6 HEq;go_wp2_with fail;go_ret;exact⟨rfl,HK7.out⟩
end Go.Proofs.YtnceajanlnnfoaaGreatDoor
