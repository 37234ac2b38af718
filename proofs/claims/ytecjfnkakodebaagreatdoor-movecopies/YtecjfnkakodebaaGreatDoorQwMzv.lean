/-MoveCopies: the walk. -/
import Derived.Test.YtecjfnkakodebaaGreatDoorQwMzq
set_option maxRecDepth 40000
set_option maxHeartbeats 80000000
namespace Go.Proofs.YtecjfnkakodebaaGreatDoor
open Go.RowKit Go.Maps Go.Sort Go.Lib Go.Shelf
attribute [local go_sem] Oper.semAt_some
structure MtS (w W:World) (p5 p6 p7 p8 p9 p10 p11 g ga:Nat) (a1 a2 a3 a4 u1 u2 dc dr b3 b4:Int) (L M:List Cc):Prop where
 c4:Blk W (w.heap.size+1) [.bool false] 4
 c5:Blk W p5 [.pointer (some ⟨g,0,none⟩)] 24
 c6:Blk W p6 [.int .i64 a1,.int .i64 a2,.int .i64 a3,.int .i64 a4] 34
 c7:Blk W p7 [.int .i64 u1,.int .i64 u2] 32
 c8:Blk W p8 [.int .i64 dc] 3
 c9:Blk W p9 [.int .i64 dr] 3
 c10:Blk W p10 [.int .i64 u1,.int .i64 u2,.int .i64 b3,.int .i64 b4] 34
 c11:Blk W p11 [.pointer (some ⟨ga,0,none⟩)] 24
 gi:GI 0 W g L
 gm:GI 0 W ga M
 kp:Kp w W Nul
theorem MtS.nul {w W V:World} {p5 p6 p7 p8 p9 p10 p11 g ga:Nat} {a1 a2 a3 a4 u1 u2 dc dr b3 b4:Int} {L M:List Cc} (h:MtS w W p5 p6 p7 p8 p9 p10 p11 g ga a1 a2 a3 a4 u1 u2 dc dr b3 b4 L M) (k:Kp W V Nul):MtS w V p5 p6 p7 p8 p9 p10 p11 g ga a1 a2 a3 a4 u1 u2 dc dr b3 b4 L M:=
 ⟨h.c4.kp k (fun x=>x),h.c5.kp k (fun x=>x),h.c6.kp k (fun x=>x),h.c7.kp k (fun x=>x),h.c8.kp k (fun x=>x),h.c9.kp k (fun x=>x),h.c10.kp k (fun x=>x),h.c11.kp k (fun x=>x),h.gi.kp k,h.gm.kp k,h.kp.trans k⟩
theorem dif_wrap {a b:Int} (h1:1<=a) (h2:a<=7) (h3:1<=b) (h4:b<=8):wrap64 (a-b)=a-b:=by unfold wrap64;omega
theorem nil_ptr'' (g:Nat) (w:World):(binOp .eql 24 (.pointer (some ⟨g,0,none⟩)) (.pointer none)).run Tryz.prog w=.ok (.bool false) w:=by
 simp[go_sem]
theorem copies22 (vl:Value) (xl:List (Cc×Value)) (x0 x1 x2 f1 f2 g1 g2 t1 t2:Int) (w:World) (hl:PutsIn w vl xl) (h1:I64 f1) (h2:I64 f2) (h3:I64 g1) (h4:I64 g2) (h5:I64 t1) (h6:I64 t2) (hv:VS w) :
  Calls Tryz.prog 5 #[vl,.agg #[.int .i64 x0,.int .i64 x1,.int .i64 x2,.int .i64 f1,.int .i64 f2,.int .i64 g1,.int .i64 g2,.int .i64 t1,.int .i64 t2]] w fun e w'=>e=.returned (.bool true)/\Kp w w' Nul:=by
 have HMade:Hid (∀wq,Kp w wq Nul->Calls Tryz.prog 13 #[vl] wq fun e w'=>∃g L,e=.returned (.pointer (some ⟨g,0,none⟩))/\GI wq.heap.size w' g L/\Ok17 L/\Kp wq w' Nul):=fun wq k=>made22 vl xl wq (hl.kp k) (hv.kp k)
 have HKn:Hid (∀wq,Kp w wq Nul->Calls Tryz.prog 8 #[] wq fun e w'=>e=.returned (.bool true)/\Kp wq w' Nul):=fun wq k=>known22 wq (hv.kp k)
 have HSm:Hid (∀wq,Calls Tryz.prog 14 #[.agg #[.int .i64 x0,.int .i64 x1,.int .i64 x2,.int .i64 f1,.int .i64 f2,.int .i64 g1,.int .i64 g2,.int .i64 t1,.int .i64 t2]] wq fun e w'=>∃(A:Ar4) (t:Int×Int),e=.returned (.tuple #[.agg #[.int .i64 A.1.1,.int .i64 A.1.2,.int .i64 A.2.1,.int .i64 A.2.2],.agg #[.int .i64 t.1,.int .i64 t.2]])/\Ar4.ok A=true/\(A.2.1<=8/\A.2.2<=8/\A.2.1<=A.1.1+2/\A.2.2<=A.1.2+2)/\(1<=t.1/\t.1<=7/\1<=t.2/\t.2<=7)/\Kp wq w' Nul):=fun wq=>small22 x0 x1 x2 f1 f2 g1 g2 t1 t2 wq h1 h2 h3 h4 h5 h6
 have HSh:Hid (∀c s x y wq,I64 (c+x)->I64 (s+y)->Calls Tryz.prog 15 #[.agg #[.int .i64 c,.int .i64 s],.int .i64 x,.int .i64 y] wq fun e w'=>e=.returned (.agg #[.int .i64 (c+x),.int .i64 (s+y)])/\Kp wq w' Nul):=fun c s x y wq q1 q2=>shifted22 c s x y wq q1 q2
 have HMv:Hid (∀g L (A:Ar4) (t:Int×Int) wq,GI 0 wq g L->Ok17 L->Kp w wq Nul->Ar4.ok A=true->fits A t=true->Calls Tryz.prog 16 #[.pointer (some ⟨g,0,none⟩),.agg #[.int .i64 A.1.1,.int .i64 A.1.2,.int .i64 A.2.1,.int .i64 A.2.2],.agg #[.int .i64 t.1,.int .i64 t.2]] wq fun e w'=>∃v u,e=.returned (.tuple #[v,u])/\Cp2 A t L wq w' v u):=fun g L A t wq q1 q2 q3 q4 q5=>copy_two g A t L wq q1 q2 (hv.kp q3) q4 q5
 have HVS:Hid (∀wq,Kp w wq Nul->VS wq):=fun wq k=>hv.kp k
 have HAt:Hid (∀x y w,Calls Tryz.prog 18 #[.int .i64 x,.int .i64 y] w fun e w'=>e=.returned (.agg #[.int .i64 x,.int .i64 y])/\Kp w w' Nul):=at22
 have HCl:Hid (∀wq,Calls Tryz.prog 17 #[.agg #[.int .i64 1,.int .i64 1,.int .i64 12,.int .i64 12]] wq fun e w'=>∃p,e=.returned (.func (.func 69) #[] #[.pointer (some ⟨p,0,none⟩)])/\Blk w' p [.int .i64 1,.int .i64 1,.int .i64 12,.int .i64 12] 34/\Kp wq w' Nul):=fun wq=>cellsL 1 1 12 12 wq
 obtain⟨W0,hW0⟩:∃W0,(w.alloc (.cells #[.int .i64 x0,.int .i64 x1,.int .i64 x2,.int .i64 f1,.int .i64 f2,.int .i64 g1,.int .i64 g2,.int .i64 t1,.int .i64 t2] 36)).alloc (.cells #[.bool false] 4)=W0:=⟨_,rfl⟩
 have HW0:Hid ((w.alloc (.cells #[.int .i64 x0,.int .i64 x1,.int .i64 x2,.int .i64 f1,.int .i64 f2,.int .i64 g1,.int .i64 g2,.int .i64 t1,.int .i64 t2] 36)).alloc (.cells #[.bool false] 4)=W0):=hW0
 have k0:Kp w W0 Nul:=by rw[<- hW0];exact((Kp.refl w Nul).alloc _).alloc _
 have HB0:Hid (∀wq,Kp W0 wq Nul->Blk wq w.heap.size [.int .i64 x0,.int .i64 x1,.int .i64 x2,.int .i64 f1,.int .i64 f2,.int .i64 g1,.int .i64 g2,.int .i64 t1,.int .i64 t2] 36):=fun wq k=>by
  have:Blk W0 w.heap.size [.int .i64 x0,.int .i64 x1,.int .i64 x2,.int .i64 f1,.int .i64 f2,.int .i64 g1,.int .i64 g2,.int .i64 t1,.int .i64 t2] 36:=by rw[<- hW0];exact(Blk.new w [.int .i64 x0,.int .i64 x1,.int .i64 x2,.int .i64 f1,.int .i64 f2,.int .i64 g1,.int .i64 g2,.int .i64 t1,.int .i64 t2] _).alloc _
  exact this.kp k (fun x=>x)
 have HB1:Hid (∀wq,Kp W0 wq Nul->Blk wq (w.heap.size+1) [.bool false] 4):=fun wq k=>by
  have:Blk W0 (w.heap.size+1) [.bool false] 4:=by rw[<- hW0];exact blk2
  exact this.kp k (fun x=>x)
 have HK0:Hid (Kp w W0 Nul):=k0
 clear hl h1 h2 h3 h4 h5 h6 hv hW0 k0
 refine(callsIn_wide (n:=12)).1 ?_
 refine callsIn_of_wp_marks Tryz.func5 rfl trivial ?_ rfl
 simp only[Tryz.ntmps5,List.size_toArray,List.length_cons,List.length_nil,Nat.reduceAdd,Nat.reduceSub,Array.replicate_succ,Array.replicate_zero,List.push_toArray,List.append_toArray,List.nil_append,List.cons_append]
 refine wpIn_wide.2 ?_
 go_wp2_with (first|(rw[HW0.out])|fail)
 refine(HMade.out W0 HK0.out).mono ?_
 rintro e w1 ⟨g,L,rfl,hg1,hL,hk1⟩
 have HOn:Hid (L.Pairwise (fun x y=>x.1≠y.1)):=hg1.once
 have HOk:Hid (Ok17 L):=hL
 obtain⟨V1,hV1⟩:∃V1,w1.alloc (.cells #[.pointer (some ⟨g,0,none⟩)] 24)=V1:=⟨_,rfl⟩
 have HV1:Hid (w1.alloc (.cells #[.pointer (some ⟨g,0,none⟩)] 24)=V1):=hV1
 have kv1:Kp w1 V1 Nul:=by rw[<- hV1];exact(Kp.refl _ _).alloc _
 have HG:Hid (∀wq,Kp V1 wq Nul->GI 0 wq g L):=fun wq k=>(GridIn.mono hg1 (fun _ _=>Nat.zero_le _)).kp (kv1.trans k)
 have HB5:Hid (∀wq,Kp V1 wq Nul->Blk wq w1.heap.size [.pointer (some ⟨g,0,none⟩)] 24):=fun wq k=>by
  have:Blk V1 w1.heap.size [.pointer (some ⟨g,0,none⟩)] 24:=by rw[<- hV1];exact Blk.new w1 _ _
  exact this.kp k (fun x=>x)
 have K1:Hid (Kp W0 V1 Nul):=hk1.trans kv1
 clear hg1 hL hk1 kv1 hV1 HMade HW0
 have hnp:=nil_ptr'' g
 have l5:=(HB5.out V1 (Kp.refl _ _)).cell (i:=0) rfl
 go_wp2_with (first|(rw[HV1.out])|fail)
 refine(HKn.out V1 (HK0.out.trans K1.out)).mono ?_
 rintro e w2 ⟨rfl,hk2⟩
 have K2:Hid (Kp V1 w2 Nul):=hk2
 clear hk2 l5 HV1
 have HX:=HB0.out w2 (K1.out.trans K2.out)
 have m0:=HX.cell (i:=0) rfl
 have m1:=HX.cell (i:=1) rfl
 have m2:=HX.cell (i:=2) rfl
 have m3:=HX.cell (i:=3) rfl
 have m4:=HX.cell (i:=4) rfl
 have m5:=HX.cell (i:=5) rfl
 have m6:=HX.cell (i:=6) rfl
 have m7:=HX.cell (i:=7) rfl
 have m8:=HX.cell (i:=8) rfl
 go_wp2_with fail
 clear m0 m1 m2 m3 m4 m5 m6 m7 m8 HX
 refine(HSm.out w2).mono ?_
 rintro e w3 ⟨⟨⟨a1,a2⟩,⟨a3,a4⟩⟩,⟨u1,u2⟩,rfl,hAok,hAb,htb,hk3⟩
 have hAo:=(ar_ok _).1 hAok
 simp only at hAb htb hAo
 have HF:Hid ((1<=a1/\a1<=a3/\1<=a2/\a2<=a4)/\(a3<=8/\a4<=8/\a3<=a1+2/\a4<=a2+2)/\(1<=u1/\u1<=7/\1<=u2/\u2<=7)):=⟨by omega,hAb,htb⟩
 have HAok:Hid (Ar4.ok ((a1,a2),(a3,a4))=true):=hAok
 obtain⟨dc,hdc⟩:∃dc:Int,u1-a1=dc:=⟨_,rfl⟩
 obtain⟨dr,hdr⟩:∃dr:Int,u2-a2=dr:=⟨_,rfl⟩
 have hwc:wrap64 (u1-a1)=dc:=by rw[dif_wrap (by omega) (by omega) (by omega) (by omega)];exact hdc
 have hwr:wrap64 (u2-a2)=dr:=by rw[dif_wrap (by omega) (by omega) (by omega) (by omega)];exact hdr
 have HD:Hid (dc=u1-a1/\dr=u2-a2):=⟨hdc.symm,hdr.symm⟩
 have K3:Hid (Kp V1 w3 Nul):=K2.out.trans hk3
 clear hk3 hAok hAb htb hAo hdc hdr K2 HKn HSm
 simp only
 go_upto_region 7 with fail
 obtain⟨W4,hW4⟩:∃W4,(((w3.alloc (.cells #[.int .i64 a1,.int .i64 a2,.int .i64 a3,.int .i64 a4] 34)).alloc (.cells #[.int .i64 u1,.int .i64 u2] 32)).alloc (.cells #[.int .i64 dc] 3)).alloc (.cells #[.int .i64 dr] 3)=W4:=⟨_,rfl⟩
 rw[hW4]
 have k34:Kp w3 W4 Nul:=by rw[<- hW4];exact((((Kp.refl w3 Nul).alloc _).alloc _).alloc _).alloc _
 have HC6:Hid (∀wq,Kp W4 wq Nul->Blk wq w3.heap.size [.int .i64 a1,.int .i64 a2,.int .i64 a3,.int .i64 a4] 34):=fun wq k=>by
  have:Blk W4 w3.heap.size [.int .i64 a1,.int .i64 a2,.int .i64 a3,.int .i64 a4] 34:=by rw[<- hW4];exact(((Blk.new w3 [.int .i64 a1,.int .i64 a2,.int .i64 a3,.int .i64 a4] _).alloc _).alloc _).alloc _
  exact this.kp k (fun x=>x)
 have HC7:Hid (∀wq,Kp W4 wq Nul->Blk wq (w3.heap.size+1) [.int .i64 u1,.int .i64 u2] 32):=fun wq k=>by
  have:Blk W4 (w3.heap.size+1) [.int .i64 u1,.int .i64 u2] 32:=by rw[<- hW4];exact((blk2 (cs:=[.int .i64 u1,.int .i64 u2])).alloc _).alloc _
  exact this.kp k (fun x=>x)
 have HC8:Hid (∀wq,Kp W4 wq Nul->Blk wq (w3.heap.size+1+1) [.int .i64 dc] 3):=fun wq k=>by
  have:Blk W4 (w3.heap.size+1+1) [.int .i64 dc] 3:=by rw[<- hW4];exact(blk3 (cs:=[.int .i64 dc])).alloc _
  exact this.kp k (fun x=>x)
 have HC9:Hid (∀wq,Kp W4 wq Nul->Blk wq (w3.heap.size+1+1+1) [.int .i64 dr] 3):=fun wq k=>by
  have:Blk W4 (w3.heap.size+1+1+1) [.int .i64 dr] 3:=by
   have h:=Blk.new (((w3.alloc (.cells #[.int .i64 a1,.int .i64 a2,.int .i64 a3,.int .i64 a4] 34)).alloc (.cells #[.int .i64 u1,.int .i64 u2] 32)).alloc (.cells #[.int .i64 dc] 3)) [.int .i64 dr] 3
   rw[World.size_alloc,World.size_alloc,World.size_alloc] at h
   rw[<- hW4];exact h
  exact this.kp k (fun x=>x)
 have K4:Hid (Kp V1 W4 Nul):=K3.out.trans k34
 obtain⟨b3,hb3⟩:∃b3:Int,a3+dc=b3:=⟨_,rfl⟩
 obtain⟨b4,hb4⟩:∃b4:Int,a4+dr=b4:=⟨_,rfl⟩
 have HSh1:Hid (∀wq,Calls Tryz.prog 15 #[.agg #[.int .i64 a3,.int .i64 a4],.int .i64 dc,.int .i64 dr] wq fun e w'=>e=.returned (.agg #[.int .i64 b3,.int .i64 b4])/\Kp wq w' Nul):=fun wq=>by
  have hF:=HF.out
  have hD:=HD.out
  have h:=HSh.out a3 a4 dc dr wq (by unfold I64;omega) (by unfold I64;omega)
  rw[hb3,hb4] at h
  exact h
 have HBB:Hid (b3=a3+u1-a1/\b4=a4+u2-a2):=⟨by have:=HD.out;omega,by have:=HD.out;omega⟩
 clear hW4 k34 K3 hb3 hb4 hwc hwr
 go_cut[10] from 53 to 59 (fun s wz=>∃b,s=.pointer (some ⟨b,0,none⟩)/\Blk wz b [.int .i64 u1,.int .i64 u2,.int .i64 b3,.int .i64 b4] 34/\Kp W4 wz Nul)
 case first=>
  refine wp_region_noPanic ?_
  refine wp_region_hel (fun w':World=>Kp W4 w' Nul) (by kernel_rfl) ((Kp.refl _ _).drew) (fun hHeld=>?_)
  refine wpH_takes (i:=0) (v:=.agg #[.int .i64 u1,.int .i64 u2]) (some 53) rfl rfl (by kernel_rfl) (fun _ _ _ h=>h) (Or.inl ⟨by rfl,fun w' hSw=>exec_load_row 32 (.tmp 7) rfl (w3.heap.size+1) 0 rfl [.int .i64 u1,.int .i64 u2] _ (blk_range (HC7.out w' hSw)) Tryz.underlying32 rfl infoAddr2'⟩) hHeld ?_
  simp only[Act.put,Sz0,Sz1,Sz2]
  refine wpH_takes (i:=1) (v:=.pointer (some ⟨w3.heap.size,2,none⟩)) (some 54) rfl rfl (by kernel_rfl) (fun _ _ _ h=>h) (Or.inl ⟨by rfl,?_⟩) hHeld ?_
  ·intro w' hSw;clear hSw;go_simp
  simp only[Act.put,Sz0,Sz1,Sz2]
  refine wpH_takes (i:=2) (v:=.agg #[.int .i64 a3,.int .i64 a4]) (some 55) rfl rfl (by kernel_rfl) (fun _ _ _ h=>h) (Or.inl ⟨by rfl,fun w' hSw=>exec_load_row 32 (.tmp 54) rfl w3.heap.size 2 rfl [.int .i64 a3,.int .i64 a4] _ (Blk.range (pre:=[.int .i64 a1,.int .i64 a2]) (l:=[.int .i64 a3,.int .i64 a4]) (post:=[]) (HC6.out w' hSw)) Tryz.underlying32 rfl infoAddr2'⟩) hHeld ?_
  simp only[Act.put,Sz0,Sz1,Sz2]
  refine wpH_takes (i:=3) (v:=.int .i64 dc) (some 56) rfl rfl (by kernel_rfl) (fun _ _ _ h=>h) (Or.inl ⟨by rfl,?_⟩) hHeld ?_
  ·intro w' hSw;have s0:=(HC8.out w' hSw).cell (i:=0) rfl;clear hSw;go_simp
  simp only[Act.put,Sz0,Sz1,Sz2]
  refine wpH_takes (i:=4) (v:=.int .i64 dr) (some 57) rfl rfl (by kernel_rfl) (fun _ _ _ h=>h) (Or.inl ⟨by rfl,?_⟩) hHeld ?_
  ·intro w' hSw;have s0:=(HC9.out w' hSw).cell (i:=0) rfl;clear hSw;go_simp
  simp only[Act.put,Sz0,Sz1,Sz2]
  refine wpH_fork (i:=5) (j:=7) (by kernel_rfl) rfl rfl rfl rfl (fun K hK=>?_) (fun K hK=>?_)
  ·go_simp
   refine(HSh1.out _).mono ?_
   rintro e v1 ⟨rfl,hk2⟩
   have L1:Hid (Kp W4 v1 Nul):=((Kp.refl W4 Nul).drew).trans hk2
   refine hK.out _ _ L1.out (fun hHeld=>?_)
   clear hK K hk2
   (try simp only[Act.put,Sz0,Sz1,Sz2])
   refine wpH_takes (i:=6) (v:=.agg #[.int .i64 u1,.int .i64 u2,.int .i64 b3,.int .i64 b4]) (some 59) rfl rfl (by kernel_rfl) (fun _ _ _ h=>h) (Or.inl ⟨by rfl,?_⟩) hHeld ?_
   ·intro w' hSw;clear hSw;go_simp
   simp only[Act.put,Sz0,Sz1,Sz2]
   refine wpH_step (i:=7) (by kernel_rfl) rfl rfl (fun K hK=>?_)
   go_simp
   have BSZ:Hid (W4.heap.size<=v1.heap.size):=L1.out.size
   have N1:Hid (Blk (v1.alloc (.cells #[.int .i64 0,.int .i64 0,.int .i64 0,.int .i64 0] 34)) v1.heap.size [.int .i64 0,.int .i64 0,.int .i64 0,.int .i64 0] 34):=Blk.new v1 [.int .i64 0,.int .i64 0,.int .i64 0,.int .i64 0] 34
   have L2:Hid (Kp W4 (v1.alloc (.cells #[.int .i64 0,.int .i64 0,.int .i64 0,.int .i64 0] 34)) Nul):=L1.out.alloc _
   refine hK.out _ _ L2.out (fun hHeld=>?_)
   clear hK K
   (try simp only[Act.put,Sz0,Sz1,Sz2])
   refine wpH_step (i:=8) (by kernel_rfl) rfl rfl (fun K hK=>?_)
   refine wp_store_blk 34 (.tmp 10) (.tmp 59) rfl _ _ [.int .i64 u1,.int .i64 u2,.int .i64 b3,.int .i64 b4] _ N1.out rfl rfl rfl infoArea (ints4 _ _ _ _) ?_
   intro Y hbY hkY
   have LY:Hid (Kp W4 Y Nul):=L2.out.trans' hkY (fun i hi e=>Nat.lt_irrefl _ (Nat.lt_of_lt_of_le (show i<_ from hi) (Nat.le_trans BSZ.out (Nat.le_of_eq (Eq.symm e)))))
   refine hK.out _ _ LY.out (fun hHeld=>?_)
   clear hK K
   (try simp only[Act.put])
   refine wpAnyH_done (by kernel_rfl) ?_ _
   refine NoPanic.normal ?_
   go_wp2_with fail
   go_meet
   case rel=>exact⟨_,rfl,hbY,LY.out⟩
  ·go_simp
   have BSZ:Hid (W4.heap.size<=W4.drew.heap.size):=Nat.le_refl _
   have N1:Hid (∀wq,Kp (W4.drew.alloc (.cells #[.int .i64 0,.int .i64 0,.int .i64 0,.int .i64 0] 34)) wq Nul->Blk wq W4.drew.heap.size [.int .i64 0,.int .i64 0,.int .i64 0,.int .i64 0] 34):=fun wq k=>(Blk.new W4.drew [.int .i64 0,.int .i64 0,.int .i64 0,.int .i64 0] 34).kp k (fun x=>x)
   have J1:Hid (Kp W4 (W4.drew.alloc (.cells #[.int .i64 0,.int .i64 0,.int .i64 0,.int .i64 0] 34)) Nul):=((Kp.refl W4 Nul).drew).alloc _
   refine hK.out _ _ J1.out (fun hHeld=>?_)
   clear hK K
   (try simp only[Act.put,Sz0,Sz1,Sz2])
   refine wpH_step (i:=5) (by kernel_rfl) rfl rfl (fun K hK=>?_)
   go_simp
   refine(HSh1.out _).mono ?_
   rintro e v2 ⟨rfl,hk2⟩
   have L1:Hid (Kp W4 v2 Nul):=J1.out.trans hk2
   have I1:Hid (Kp (W4.drew.alloc (.cells #[.int .i64 0,.int .i64 0,.int .i64 0,.int .i64 0] 34)) v2 Nul):=hk2
   refine hK.out _ _ L1.out (fun hHeld=>?_)
   clear hK K hk2
   (try simp only[Act.put,Sz0,Sz1,Sz2])
   refine wpH_takes (i:=6) (v:=.agg #[.int .i64 u1,.int .i64 u2,.int .i64 b3,.int .i64 b4]) (some 59) rfl rfl (by kernel_rfl) (fun _ _ _ h=>h) (Or.inl ⟨by rfl,?_⟩) hHeld ?_
   ·intro w' hSw;clear hSw;go_simp
   simp only[Act.put,Sz0,Sz1,Sz2]
   refine wpH_step (i:=8) (by kernel_rfl) rfl rfl (fun K hK=>?_)
   refine wp_store_blk 34 (.tmp 10) (.tmp 59) rfl _ _ [.int .i64 u1,.int .i64 u2,.int .i64 b3,.int .i64 b4] _ (N1.out _ I1.out) rfl rfl rfl infoArea (ints4 _ _ _ _) ?_
   intro Y hbY hkY
   have LY:Hid (Kp W4 Y Nul):=L1.out.trans' hkY (fun i hi e=>Nat.lt_irrefl _ (Nat.lt_of_lt_of_le (show i<_ from hi) (Nat.le_trans BSZ.out (Nat.le_of_eq (Eq.symm e)))))
   refine hK.out _ _ LY.out (fun hHeld=>?_)
   clear hK K
   (try simp only[Act.put])
   refine wpAnyH_done (by kernel_rfl) ?_ _
   refine NoPanic.normal ?_
   go_wp2_with fail
   go_meet
   case rel=>exact⟨_,rfl,hbY,LY.out⟩
 case rest=>
  obtain⟨p10,rfl,hb10,hk10⟩:=hcut
  rename World=>w5
  have K5:Hid (Kp V1 w5 Nul):=K4.out.trans hk10
  have HC10:Hid (∀wq,Kp w5 wq Nul->Blk wq p10 [.int .i64 u1,.int .i64 u2,.int .i64 b3,.int .i64 b4] 34):=fun wq k=>hb10.kp k (fun x=>x)
  have hfit:fits ((a1,a2),(a3,a4)) (u1,u2)=true:=by
   have hF:=HF.out
   unfold fits
   rw[ar_ok]
   unfold mvTo
   simp only
   omega
  have HFit:Hid (fits ((a1,a2),(a3,a4)) (u1,u2)=true):=hfit
  have HMv1:Hid (Calls Tryz.prog 16 #[.pointer (some ⟨g,0,none⟩),.agg #[.int .i64 a1,.int .i64 a2,.int .i64 a3,.int .i64 a4],.agg #[.int .i64 u1,.int .i64 u2]] w5 fun e w'=>∃v u,e=.returned (.tuple #[v,u])/\Cp2 ((a1,a2),(a3,a4)) (u1,u2) L w5 w' v u):=HMv.out g L ((a1,a2),(a3,a4)) (u1,u2) w5 (HG.out w5 K5.out) HOk.out (HK0.out.trans (K1.out.trans K5.out)) HAok.out hfit
  clear hfit
  have HK45:Hid (Kp W4 w5 Nul):=hk10
  have l5:=(HB5.out w5 K5.out).cell (i:=0) rfl
  have X6:=HC6.out w5 hk10
  have q0:=X6.cell (i:=0) rfl
  have q1:=X6.cell (i:=1) rfl
  have q2:=X6.cell (i:=2) rfl
  have q3:=X6.cell (i:=3) rfl
  have X7:=HC7.out w5 hk10
  have r0:=X7.cell (i:=0) rfl
  have r1:=X7.cell (i:=1) rfl
  clear hb10 hk10 X6 X7 HSh1
  go_wp2_with fail
  clear l5 q0 q1 q2 q3 r0 r1
  refine HMv1.out.mono ?_
  rintro e w6 ⟨v,u,rfl,hR⟩
  have hTo:mvTo ((a1,a2),(a3,a4)) (u1,u2)=((u1,u2),(b3,b4)):=by
   have hB:=HBB.out
   unfold mvTo
   simp only
   rw[hB.1,hB.2]
  have HTo:Hid (mvTo ((a1,a2),(a3,a4)) (u1,u2)=((u1,u2),(b3,b4))):=hTo
  cases hR with
  | full K M0 hF hp k6=>
   have HN7:Hid (Blk (w6.alloc (.cells #[.pointer none] 24)) w6.heap.size [.pointer none] 24):=Blk.new w6 _ _
   have HKn:Hid (Kp w5 (w6.alloc (.cells #[.pointer none] 24)) Nul):=k6.alloc _
   have HSn:Hid (w5.heap.size<=w6.heap.size):=k6.size
   clear hF hp k6 hTo
   go_wp2_with (first
    | (refine wpList_store_var rfl 24 (.tmp 11) (.tmp 65) rfl w6.heap.size rfl (.pointer none) rfl rfl 24 _ HN7.out (by kernel_rfl) ?_;intro w7 hb7 hk7;have K57:Hid (Kp w5 w7 Nul):=HKn.out.trans' hk7 (fun i hi e=>by have e':i=w6.heap.size:=e;have:=HSn.out;omega);have l11:w7.cell? ⟨w6.heap.size,0,none⟩=some (.pointer none):=hb7.cell rfl;have HB4':Hid (Blk w7 (w.heap.size+1) [.bool false] 4):=HB1.out w7 (K1.out.trans (K5.out.trans K57.out));have HKe:Hid (Kp w w7 Nul):=HK0.out.trans (K1.out.trans (K5.out.trans K57.out));clear hb7 hk7)
    | (refine wpList_store_var rfl 4 (.tmp 4) (.tmp 74) rfl (w.heap.size+1) rfl (.bool true) rfl rfl 4 _ HB4'.out (by kernel_rfl) ?_;intro Y hbY hkY)
    | fail)
   refine⟨_,results_bool rfl rfl hbY,rfl,?_⟩
   exact HKe.out.trans' hkY (fun i hi e=>by have e':i=w.heap.size+1:=e;omega)
  | fit K M0 hF M hp ga hbg hbo hbk=>
  have HFc:Hid (CpF ((a1,a2),(a3,a4)) (u1,u2) L K M0):=hF
  have HpM:Hid (pts M0 (cpY a1 a2 u1 u2 K)=some M):=hp
  have HoM:Hid (M.Pairwise (fun x y=>x.1≠y.1)):=hbg.once'
  have HAv:Hid (vA a1 a2 a3 a4=true):=HAok.out
  have HBv:Hid (vA u1 u2 b3 b4=true):=by
   have h:Ar4.ok (mvTo ((a1,a2),(a3,a4)) (u1,u2))=true:=HFit.out
   rw[hTo] at h
   exact h
  have HMem:Hid (∀y,y∈M↔(inA u1 u2 b3 b4 y.1.1 y.1.2=true/\∃a,((y.1.1-(u1-a1),y.1.2-(u2-a2)),a)∈L/\y.2=hmC (shH (u1-a1) (u2-a2)) a)∨(inA u1 u2 b3 b4 y.1.1 y.1.2=false/\y∈L)):=by
   have h0:=hF.m0
   rw[hTo] at h0
   exact copied_mem h0 hF.ks hF.km HBB.out HAv.out HBv.out hp
  obtain⟨w7,hw7⟩:∃w7,w6.alloc (.cells #[.pointer (some ⟨ga,0,none⟩)] 24)=w7:=⟨_,rfl⟩
  have HW7:Hid (w6.alloc (.cells #[.pointer (some ⟨ga,0,none⟩)] 24)=w7):=hw7
  have k67:Kp w6 w7 Nul:=by rw[<- hw7];exact(Kp.refl _ _).alloc _
  have k57:Kp w5 w7 Nul:=hbk.trans k67
  have HST:Hid (MtS w w7 w1.heap.size w3.heap.size (w3.heap.size+1) (w3.heap.size+1+1) (w3.heap.size+1+1+1) p10 w6.heap.size g ga a1 a2 a3 a4 u1 u2 dc dr b3 b4 L M):=
   ⟨HB1.out w7 (K1.out.trans (K5.out.trans k57)),HB5.out w7 (K5.out.trans k57),HC6.out w7 (HK45.out.trans k57),HC7.out w7 (HK45.out.trans k57),HC8.out w7 (HK45.out.trans k57),HC9.out w7 (HK45.out.trans k57),HC10.out w7 k57,(by rw[<- hw7];exact Blk.new w6 _ _),HG.out w7 (K5.out.trans k57),(GridIn.mono hbg (fun _ _=>Nat.zero_le _)).kp k67,HK0.out.trans (K1.out.trans (K5.out.trans k57))⟩
  have HOM:Hid (Ok17 M):=hbo
  clear hF hp hbg hbo hbk hw7 k67 k57 HMv1 HC6 HC7 HC8 HC9 HC10 HG HB5 HB1 HB0 K1 K4 K5 HK45 HK0 hTo
  have hnm:=nil_ptr'' ga
  have l11:=HST.out.c11.cell (i:=0) rfl
  go_wp2_with (first|(rw[HW7.out])|fail)
  clear l11
  refine(HAt.out _ _ _).mono ?_
  rintro e w8 ⟨rfl,k8⟩
  have K8:Hid (Kp w7 w8 Nul):=k8
  clear k8 HW7
  go_wp2_with fail
  refine(HAt.out _ _ _).mono ?_
  rintro e w9 ⟨rfl,k9⟩
  have K9:Hid (Kp w7 w9 Nul):=K8.out.trans k9
  clear k9 K8
  go_wp2_with fail
  refine(HCl.out _).mono ?_
  rintro e w10 ⟨pc,rfl,hbc,k10⟩
  have HS:Hid (MtS w w10 w1.heap.size w3.heap.size (w3.heap.size+1) (w3.heap.size+1+1) (w3.heap.size+1+1+1) p10 w6.heap.size g ga a1 a2 a3 a4 u1 u2 dc dr b3 b4 L M):=HST.out.nul (K9.out.trans k10)
  have HBC:Hid (Blk w10 pc [.int .i64 1,.int .i64 1,.int .i64 12,.int .i64 12] 34):=hbc
  clear hbc k10 K9 HST HCl
  go_wp2_with fail
  generalize hact:Act.mk _ _=a0
  refine wp_range_own (α:=Int×Int) (N:=144) (gf:=69) (lb:=#[.pointer (some ⟨pc,0,none⟩)]) (by rw[<- hact];rfl) (enters_of Tryz.func69 (by kernel_rfl) rfl) (encs:=encX) (fun _=>rfl) Tell12 (fun _=>False) ?hseq (fun _ Z W=>(∀i,¬Z i)/\Kp w10 W Nul) ?hZ ?hZl ?hI (fun _=>False) ?h0 ?hround ?hdone
  case hseq=>exact cells12_own pc w10 HBC.out (fun _=>False) (fun h=>h)
  case hZ=>rintro k Z W ⟨h,_⟩;exact⟨h _,h _⟩
  case hZl=>rintro k Z W ⟨h,_⟩;exact⟨fun i hi=>absurd hi (h i),fun i _ hi=>absurd hi (h i)⟩
  case hI=>rintro k Z W W' ⟨h,q⟩ r;exact⟨h,q.trans' r (fun i hi e=>by rcases e with e|e <;> omega)⟩
  case h0=>exact⟨fun _ h=>h,Kp.refl _ _⟩
  case hround=>
   subst hact
   rintro k ⟨c,s⟩ Z W KK hkN hsW ⟨hZ,hKW⟩ hT hcont
   have hT':(c,s)=c12 k:=hT
   have HCS:Hid (1<=c/\c<=12/\1<=s/\s<=12):=by
    unfold c12 at hT'
    injection hT' with e1 e2
    show _/\_
    omega
   have HZN:Hid (∀i,¬Z i):=hZ
   have HWS:Hid (w10.heap.size+2<=W.heap.size):=hsW
   have HKW:Hid (Kp w10 W Nul):=hKW
   clear hT hT' hkN hsW hZ hKW HBC HAt HMv
   simp only[List.zip_toArray,List.zip_cons_cons,List.zip_nil_right,List.foldl_toArray',List.foldl_cons,List.foldl_nil]
   gi_wp2_with fail
   refine hcont _ _ ((Kp.refl W Nul).alloc _) (fun V hV=>?_)
   have hKV:Kp w10 V Nul:=(HKW.out.alloc (.cells #[.int .i64 c,.int .i64 s] 32)).trans' hV (fun i hi e=>by have e':i=w10.heap.size+1:=e;omega)
   have HSV:Hid (MtS w V w1.heap.size w3.heap.size (w3.heap.size+1) (w3.heap.size+1+1) (w3.heap.size+1+1+1) p10 w6.heap.size g ga a1 a2 a3 a4 u1 u2 dc dr b3 b4 L M):=HS.out.nul hKV
   have HKV:Hid (Kp w10 V Nul):=hKV
   have HBV:Hid (∀wq,Kp V wq Nul->Blk wq W.heap.size [.int .i64 c,.int .i64 s] 32):=fun wq k=>by
    have h:=(Blk.new W [.int .i64 c,.int .i64 s] 32).kp hV (fun e=>by have e':W.heap.size=w10.heap.size+1:=e;have:=HWS.out;omega)
    exact h.kp k (fun x=>x)
   obtain⟨ua,hua,hax,hao,hGa⟩:=get_any g L V HSV.out.gi HOk.out c s (by have:=HCS.out;unfold I64;omega) (by have:=HCS.out;unfold I64;omega)
   obtain⟨un,hun,hnx,hno,hGn⟩:=get_any ga M V HSV.out.gm HOM.out c s (by have:=HCS.out;unfold I64;omega) (by have:=HCS.out;unfold I64;omega)
   have HGa:Hid (∀wq,Kp V wq Nul->Calls Tryz.prog 19 #[.pointer (some ⟨g,0,none⟩),.agg #[.int .i64 c,.int .i64 s]] wq fun e w'=>∃sl' fp,e=.returned (ua.val sl')/\Own w' wq.heap.size sl' ua.t fp/\Kp wq w' Nul):=hGa
   have HGn:Hid (∀wq,Kp V wq Nul->Calls Tryz.prog 19 #[.pointer (some ⟨ga,0,none⟩),.agg #[.int .i64 c,.int .i64 s]] wq fun e w'=>∃sl' fp,e=.returned (un.val sl')/\Own w' wq.heap.size sl' un.t fp/\Kp wq w' Nul):=hGn
   obtain⟨qB,hqB⟩:∃q,inB ((u1,u2),(b3,b4)) (c,s)=q:=⟨_,rfl⟩
   have HInB:Hid (∀wq,Calls Tryz.prog 20 #[.agg #[.int .i64 u1,.int .i64 u2,.int .i64 b3,.int .i64 b4],.agg #[.int .i64 c,.int .i64 s]] wq fun e w'=>e=.returned (.bool qB)/\Kp wq w' Nul):=fun wq=>(pIn_any u1 u2 b3 b4 c s wq).mono fun e w' h=>⟨by rw[h.1,<- hqB];rfl,Kp.of_gr h.2⟩
   have hqB':inA u1 u2 b3 b4 c s=qB:=hqB
   have HNW:Hid (∀was,(if qB=true then Rd L (c-(u1-a1),s-(u2-a2)) was else Rd L (c,s) was)->un.k=was.k/\(was.k=1->csame un was=true)/\(qB=false->csame un was=true)):=fun was h=>by
    have h1:=copied_now HOk.out HoM.out HMem.out c s was un hun (by rw[hqB'];exact h)
    rw[hqB'] at h1
    exact h1
   have HUa:Hid (Rd L (c,s) ua):=hua
   have HXa:Hid (ua.v.x<18446744073709551616/\ua.t.ok):=⟨hax,hao⟩
   have HXn:Hid (un.v.x<18446744073709551616/\un.t.ok):=⟨hnx,hno⟩
   have HEnd:Hid (∀X,Kp V X Nul->Kp V X Z/\∃Z',((∀i,¬Z' i)/\Kp w10 X Nul)/\More Z Z' W):=fun X k=>⟨k.of_nul,Z,⟨HZN.out,HKV.out.trans k⟩,fun i hi=>.inl hi⟩
   have l5:=HSV.out.c5.cell (i:=0) rfl
   have XV:=HBV.out V (Kp.refl _ _)
   have y0:=XV.cell (i:=0) rfl
   have y1:=XV.cell (i:=1) rfl
   clear hV hKV hua hax hao hGa hun hnx hno hGn hqB hqB' HKW HS XV hcont
   gi_wp2_with fail
   clear l5 y0 y1
   refine⟨trivial,CallsIn.inRound _ ((callsIn_wide.2 (HGa.out _ (Kp.refl _ _))).mono ?_)⟩
   rintro e v1 ⟨sl1,fp1,rfl,ho1,k1⟩
   have KV1:Hid (Kp V v1 Nul):=k1
   have HO1:Hid (Own v1 V.heap.size sl1 ua.t fp1):=ho1
   have O1:Hid (sl1.oneCell'=true):=ho1.own.one
   clear k1 ho1 HGa
   gi_wp2_with (first
    | (refine storeIn_new' rfl 50 (.tmp 14) (.tmp 84) rfl _ _ _ _ (by first|rfl|simp) rfl rfl rfl infoContent (ua.one O1.out) ?_;generalize hV2:v1.alloc (Obj.cells _ 50)=V2;have K12:Hid (Kp v1 V2 Nul):=(by show Kp _ _ _;rw[<- hV2];exact(Kp.refl _ _).alloc _);have HB14:Hid (Blk V2 v1.heap.size (ua.cells sl1) 50):=(by show Blk _ _ _ _;rw[<- hV2];exact Blk.new v1 _ _);have KV2:Hid (Kp V V2 Nul):=KV1.out.trans K12.out;have z10:=(HSV.out.nul KV2.out).c10;have z0:=z10.cell (i:=0) rfl;have z1:=z10.cell (i:=1) rfl;have z2:=z10.cell (i:=2) rfl;have z3:=z10.cell (i:=3) rfl;have zc:=HBV.out V2 KV2.out;have y0:=zc.cell (i:=0) rfl;have y1:=zc.cell (i:=1) rfl;clear hV2 z10 zc)
    | fail)
   clear z0 z1 z2 z3 y0 y1
   refine⟨trivial,CallsIn.inRound _ ((callsIn_wide.2 (HInB.out _)).mono ?_)⟩
   rintro e v3 ⟨rfl,k3⟩
   have KV3:Hid (Kp V v3 Nul):=KV2.out.trans k3
   have HB14':Hid (Blk v3 v1.heap.size (ua.cells sl1) 50):=HB14.out.kp k3 (fun x=>x)
   have HNd:Hid (NdIn v3 (fun _=>True) sl1 ua.t):=((HO1.out.isIn.kp K12.out (fun _ _ x=>x)).kp k3 (fun _ _ x=>x)).mono (fun b hb hl=>⟨rfl,trivial⟩)
   have HL14:Hid (V.heap.size<=v1.heap.size):=KV1.out.size
   clear k3 HB14 K12 KV2
   cases qB with
   | true=>
    have HNg:Hid (IntKind.i64.wrap (-dc)=-dc/\IntKind.i64.wrap (-dr)=-dr):=by
     have hF:=HF.out
     have hD:=HD.out
     exact⟨by rw[IntKind.wrap_i64];omega,by rw[IntKind.wrap_i64];omega⟩
    obtain⟨e1,he1⟩:∃e1:Int,c + -dc=e1:=⟨_,rfl⟩
    obtain⟨e2,he2⟩:∃e2:Int,s + -dr=e2:=⟨_,rfl⟩
    have hF:=HF.out
    have hD:=HD.out
    have hC:=HCS.out
    obtain⟨ub,hub,hbx,hbo,hGb⟩:=get_any g L V HSV.out.gi HOk.out e1 e2 (by unfold I64;omega) (by unfold I64;omega)
    have HGb:Hid (∀wq,Kp V wq Nul->Calls Tryz.prog 19 #[.pointer (some ⟨g,0,none⟩),.agg #[.int .i64 e1,.int .i64 e2]] wq fun e w'=>∃sl' fp,e=.returned (ub.val sl')/\Own w' wq.heap.size sl' ub.t fp/\Kp wq w' Nul):=hGb
    have HUb:Hid (Rd L (c-(u1-a1),s-(u2-a2)) ub):=by
     show Rd _ _ _
     rw[show c-(u1-a1)=e1 by omega,show s-(u2-a2)=e2 by omega]
     exact hub
    have HXb:Hid (ub.v.x<18446744073709551616/\ub.t.ok):=⟨hbx,hbo⟩
    have HSh2:Hid (∀wq,Calls Tryz.prog 15 #[.agg #[.int .i64 c,.int .i64 s],.int .i64 (-dc),.int .i64 (-dr)] wq fun e w'=>e=.returned (.agg #[.int .i64 e1,.int .i64 e2])/\Kp wq w' Nul):=fun wq=>by
     have h:=HSh.out c s (-dc) (-dr) wq (by unfold I64;omega) (by unfold I64;omega)
     rw[he1,he2] at h
     exact h
    clear he1 he2 hF hD hC hub hbx hbo hGb
    gi_wp2_with fail
    refine regIn_noPanic ?_
    refine regIn_held (fun w':World=>Kp V w' Nul) (by kernel_rfl) (by kernel_rfl) (noPanic_lets (fun a w h=>Exit.noConfusion (And.left h))) (KV3.out.drew) (fun hHeld=>?_)
    refine wpH_takes (i:=0) (v:=.pointer (some ⟨g,0,none⟩)) (some 88) rfl rfl (by kernel_rfl) (fun _ _ _ h=>h) (Or.inl ⟨by rfl,?_⟩) hHeld ?_
    ·intro w' hSw;have s0:=(HSV.out.nul hSw).c5.cell (i:=0) rfl;clear hSw;go_simp
    simp only[Act.put,Sz0,Sz1,Sz2]
    refine wpH_takes (i:=1) (v:=.agg #[.int .i64 c,.int .i64 s]) (some 89) rfl rfl (by kernel_rfl) (fun _ _ _ h=>h) (Or.inl ⟨by rfl,fun w' hSw=>exec_load_row 32 (.tmp 13) rfl W.heap.size 0 rfl [.int .i64 c,.int .i64 s] _ (blk_range (HBV.out w' hSw)) Tryz.underlying32 rfl infoAddr2'⟩) hHeld ?_
    simp only[Act.put,Sz0,Sz1,Sz2]
    refine wpH_takes (i:=2) (v:=.int .i64 dc) (some 90) rfl rfl (by kernel_rfl) (fun _ _ _ h=>h) (Or.inl ⟨by rfl,?_⟩) hHeld ?_
    ·intro w' hSw;have s0:=(HSV.out.nul hSw).c8.cell (i:=0) rfl;clear hSw;go_simp
    simp only[Act.put,Sz0,Sz1,Sz2]
    refine wpH_takes (i:=3) (v:=.int .i64 (-dc)) (some 91) rfl rfl (by kernel_rfl) (fun _ _ _ h=>h) (Or.inl ⟨by rfl,?_⟩) hHeld ?_
    ·intro w' hSw;have s1:=HNg.out.1;clear hSw;go_simp
    simp only[Act.put,Sz0,Sz1,Sz2]
    refine wpH_takes (i:=4) (v:=.int .i64 dr) (some 92) rfl rfl (by kernel_rfl) (fun _ _ _ h=>h) (Or.inl ⟨by rfl,?_⟩) hHeld ?_
    ·intro w' hSw;have s0:=(HSV.out.nul hSw).c9.cell (i:=0) rfl;clear hSw;go_simp
    simp only[Act.put,Sz0,Sz1,Sz2]
    refine wpH_takes (i:=5) (v:=.int .i64 (-dr)) (some 93) rfl rfl (by kernel_rfl) (fun _ _ _ h=>h) (Or.inl ⟨by rfl,?_⟩) hHeld ?_
    ·intro w' hSw;have s1:=HNg.out.2;clear hSw;go_simp
    simp only[Act.put,Sz0,Sz1,Sz2]
    refine wpH_step (i:=6) (by kernel_rfl) rfl rfl (fun K hK=>?_)
    go_simp
    refine(HSh2.out _).mono ?_
    rintro e s1 ⟨rfl,hk2⟩
    have S1:Hid (Kp v3 s1 Nul):=((Kp.refl v3 Nul).drew).trans hk2
    refine hK.out _ _ (KV3.out.trans S1.out) (fun hHeld=>?_)
    clear hK K hk2
    (try simp only[Act.put,Sz0,Sz1,Sz2])
    refine wpH_step (i:=7) (by kernel_rfl) rfl rfl (fun K hK=>?_)
    go_simp
    refine(HGb.out _ (KV3.out.trans S1.out)).mono ?_
    rintro e s2 ⟨slb,fpb,rfl,hob,hk2⟩
    have S2:Hid (Kp v3 s2 Nul):=S1.out.trans hk2
    have HOb:Hid (Own s2 s1.heap.size slb ub.t fpb):=hob
    have Ob:Hid (slb.oneCell'=true):=hob.own.one
    have HS1:Hid (v1.heap.size<s1.heap.size):=Nat.lt_of_lt_of_le HB14'.out.lt S1.out.size
    refine hK.out _ _ (KV3.out.trans S2.out) (fun hHeld=>?_)
    clear hK K hk2 hob
    (try simp only[Act.put,Sz0,Sz1,Sz2])
    refine wpH_step (i:=8) (by kernel_rfl) rfl rfl (fun K hK=>?_)
    refine wp_store_blk 50 (.tmp 14) (.tmp 95) rfl v1.heap.size _ (ub.cells slb) _ (HB14'.out.kp S2.out (fun x=>x)) rfl rfl rfl infoContent (ub.one Ob.out) ?_
    intro Y hbY hkY
    have LY:Hid (Kp V Y Nul):=(KV3.out.trans S2.out).trans' hkY (fun i hi e=>by have e':i=v1.heap.size:=e;have:=HL14.out;omega)
    have HBY:Hid (Blk Y v1.heap.size (ub.cells slb) 50):=hbY
    have HNY:Hid (NdIn Y (fun _=>True) slb ub.t):=(HOb.out.isIn.kp hkY (fun i hi e=>by have e':i=v1.heap.size:=e;have:=HS1.out;omega)).mono (fun b hb hl=>⟨rfl,trivial⟩)
    refine hK.out _ _ LY.out (fun hHeld=>?_)
    clear hK K hbY hkY hHeld
    (try simp only[Act.put])
    refine wpAnyH_done (by kernel_rfl) ?_ _
    refine NoPanic.normal ?_
    have T14:Hid (∀wq,Kp Y wq Nul->Blk wq v1.heap.size (ub.cells slb) 50):=fun wq k=>HBY.out.kp k (fun x=>x)
    have TNd:Hid (∀wq,Kp Y wq Nul->NdIn wq (fun _=>True) slb ub.t):=fun wq k=>HNY.out.kp k (fun _ _ x=>x)
    have TK:Hid (Kp V Y Nul):=LY.out
    have TO:Hid (slb.oneCell'=true):=Ob.out
    have TX:Hid (ub.v.x<18446744073709551616/\ub.t.ok):=HXb.out
    have TW:Hid (un.k=ub.k/\(ub.k=1->csame un ub=true)/\(true=false->csame un ub=true)):=(HNW.out ub (by first|(rw[if_pos rfl];exact HUb.out)|(rw[if_pos trivial];exact HUb.out)))
    obtain⟨wk,hwk⟩:∃wk,ub.k=wk:=⟨_,rfl⟩
    rw[hwk] at TW
    have HWK:Hid (ub.k=wk):=hwk
    clear hwk
    have l11:=(HSV.out.nul TK.out).c11.cell (i:=0) rfl
    have zc:=HBV.out _ TK.out
    have y0:=zc.cell (i:=0) rfl
    have y1:=zc.cell (i:=1) rfl
    clear zc
    gi_wp2_with fail
    clear l11 y0 y1
    refine⟨trivial,CallsIn.inRound _ ((callsIn_wide.2 (HGn.out _ TK.out)).mono ?_)⟩
    rintro e v5 ⟨sl5,fp5,rfl,ho5,k5⟩
    have K5':Hid (Kp Y v5 Nul):=k5
    have HO5:Hid (Own v5 Y.heap.size sl5 un.t fp5):=ho5
    have O5:Hid (sl5.oneCell'=true):=ho5.own.one
    clear k5 ho5
    by_cases hw1:wk=1
    ·subst hw1
     have HCs:Hid (csame un ub=true):=TW.out.2.1 (by trivial)
     gi_wp2_with (first
      | (refine storeIn_new' rfl 50 (.tmp 15) (.tmp 98) rfl _ _ _ _ (by first|rfl|simp) rfl rfl rfl infoContent (un.one O5.out) ?_;generalize hV6:v5.alloc (Obj.cells _ 50)=V6;have K56:Hid (Kp v5 V6 Nul):=(by show Kp _ _ _;rw[<- hV6];exact(Kp.refl _ _).alloc _);have HB15:Hid (Blk V6 v5.heap.size (un.cells sl5) 50):=(by show Blk _ _ _ _;rw[<- hV6];exact Blk.new v5 _ _);have KX6:Hid (Kp Y V6 Nul):=K5'.out.trans K56.out;have lN0:V6.cell? ⟨v5.heap.size,0,none⟩=some (.int .i64 1):=(by rw[<- TW.out.1];exact HB15.out.cell rfl);have lW0:V6.cell? ⟨v1.heap.size,0,none⟩=some (.int .i64 1):=(by rw[<- HWK.out];exact(T14.out _ KX6.out).cell rfl);have z10:=(HSV.out.nul (TK.out.trans KX6.out)).c10;have z0:=z10.cell (i:=0) rfl;have z1:=z10.cell (i:=1) rfl;have z2:=z10.cell (i:=2) rfl;have z3:=z10.cell (i:=3) rfl;have zq:=HBV.out V6 (TK.out.trans KX6.out);have y0:=zq.cell (i:=0) rfl;have y1:=zq.cell (i:=1) rfl;clear hV6 z10 zq)
      | (refine loadIn_content rfl (.tmp 15) rfl v5.heap.size rfl (un.cells sl5).toArray (HB15.out) rfl ?_)
      | (refine loadIn_content rfl (.tmp 14) rfl v1.heap.size rfl (ub.cells slb).toArray (T14.out _ KX6.out) rfl ?_)
      | fail)
     clear z0 z1 z2 z3 y0 y1
     have HSa:Hid (Calls Tryz.prog 21 #[.agg (un.cells sl5).toArray,.agg (ub.cells slb).toArray] V6 fun e w'=>e=.returned (.bool true)/\Kp V6 w' Nul):=by
      have h:=gSame_at un ub sl5 slb (fun _=>True) (fun _=>True) V6 HXn.out.1 TX.out.1 HXn.out.2 TX.out.2 ((HO5.out.isIn.kp (K56.out) (fun _ _ x=>x)).mono (fun b hb hl=>⟨rfl,trivial⟩)) (TNd.out _ (KX6.out))
      rw[HCs.out] at h
      exact h
     refine⟨trivial,CallsIn.inRound _ ((callsIn_wide.2 HSa.out).mono ?_)⟩
     rintro e v7 ⟨rfl,kq⟩
     have KX7:Hid (Kp Y v7 Nul):=KX6.out.trans kq
     have K67:Hid (Kp V6 v7 Nul):=kq
     clear kq lN0 lW0 HSa HCs
     have z10:=(HSV.out.nul (TK.out.trans KX7.out)).c10
     have z0:=z10.cell (i:=0) rfl
     have z1:=z10.cell (i:=1) rfl
     have z2:=z10.cell (i:=2) rfl
     have z3:=z10.cell (i:=3) rfl
     have zq:=HBV.out v7 (TK.out.trans KX7.out)
     have y0:=zq.cell (i:=0) rfl
     have y1:=zq.cell (i:=1) rfl
     clear z10 zq
     gi_wp2_with fail
     refine⟨trivial,CallsIn.inRound _ ((callsIn_wide.2 (HInB.out _)).mono ?_)⟩
     rintro e v8 ⟨rfl,k8⟩
     have KX8:Hid (Kp Y v8 Nul):=(KX7.out).trans k8
     have K68:Hid (Kp V6 v8 Nul):=(K67.out).trans k8
     clear k8 z0 z1 z2 z3 y0 y1
     gi_wp2_with fail
     refine⟨trivial,?_⟩
     have KE:Hid (Kp V v8 Nul):=TK.out.trans KX8.out
     gi_wp2_with fail
     first
     | exact⟨rfl,HEnd.out _ KE.out⟩
     | exact HEnd.out _ KE.out
    ·have hwb:(wk==1)=false:=by simpa using hw1
     gi_wp2_with (first
      | (refine storeIn_new' rfl 50 (.tmp 15) (.tmp 98) rfl _ _ _ _ (by first|rfl|simp) rfl rfl rfl infoContent (un.one O5.out) ?_;generalize hV6:v5.alloc (Obj.cells _ 50)=V6;have K56:Hid (Kp v5 V6 Nul):=(by show Kp _ _ _;rw[<- hV6];exact(Kp.refl _ _).alloc _);have HB15:Hid (Blk V6 v5.heap.size (un.cells sl5) 50):=(by show Blk _ _ _ _;rw[<- hV6];exact Blk.new v5 _ _);have KX6:Hid (Kp Y V6 Nul):=K5'.out.trans K56.out;have lN0:V6.cell? ⟨v5.heap.size,0,none⟩=some (.int .i64 wk):=(by rw[<- TW.out.1];exact HB15.out.cell rfl);have lW0:V6.cell? ⟨v1.heap.size,0,none⟩=some (.int .i64 wk):=(by rw[<- HWK.out];exact(T14.out _ KX6.out).cell rfl);have z10:=(HSV.out.nul (TK.out.trans KX6.out)).c10;have z0:=z10.cell (i:=0) rfl;have z1:=z10.cell (i:=1) rfl;have z2:=z10.cell (i:=2) rfl;have z3:=z10.cell (i:=3) rfl;have zq:=HBV.out V6 (TK.out.trans KX6.out);have y0:=zq.cell (i:=0) rfl;have y1:=zq.cell (i:=1) rfl;clear hV6 z10 zq)
      | fail)
     refine⟨trivial,?_⟩
     gi_wp2_with fail
     clear lN0 lW0
     refine⟨trivial,CallsIn.inRound _ ((callsIn_wide.2 (HInB.out _)).mono ?_)⟩
     rintro e v8 ⟨rfl,k8⟩
     have KX8:Hid (Kp Y v8 Nul):=(KX6.out).trans k8
     have K68:Hid (Kp V6 v8 Nul):=((Kp.refl V6 Nul)).trans k8
     clear k8 z0 z1 z2 z3 y0 y1
     gi_wp2_with fail
     refine⟨trivial,?_⟩
     have KE:Hid (Kp V v8 Nul):=TK.out.trans KX8.out
     gi_wp2_with fail
     first
     | exact⟨rfl,HEnd.out _ KE.out⟩
     | exact HEnd.out _ KE.out
   | false=>
    have T14:Hid (∀wq,Kp v3 wq Nul->Blk wq v1.heap.size (ua.cells sl1) 50):=fun wq k=>HB14'.out.kp k (fun x=>x)
    have TNd:Hid (∀wq,Kp v3 wq Nul->NdIn wq (fun _=>True) sl1 ua.t):=fun wq k=>HNd.out.kp k (fun _ _ x=>x)
    have TK:Hid (Kp V v3 Nul):=KV3.out
    have TO:Hid (sl1.oneCell'=true):=O1.out
    have TX:Hid (ua.v.x<18446744073709551616/\ua.t.ok):=HXa.out
    have TW:Hid (un.k=ua.k/\(ua.k=1->csame un ua=true)/\(false=false->csame un ua=true)):=(HNW.out ua (by rw[if_neg (by decide)];exact HUa.out))
    obtain⟨wk,hwk⟩:∃wk,ua.k=wk:=⟨_,rfl⟩
    rw[hwk] at TW
    have HWK:Hid (ua.k=wk):=hwk
    clear hwk
    have l11:=(HSV.out.nul TK.out).c11.cell (i:=0) rfl
    have zc:=HBV.out _ TK.out
    have y0:=zc.cell (i:=0) rfl
    have y1:=zc.cell (i:=1) rfl
    clear zc
    gi_wp2_with fail
    clear l11 y0 y1
    refine⟨trivial,CallsIn.inRound _ ((callsIn_wide.2 (HGn.out _ TK.out)).mono ?_)⟩
    rintro e v5 ⟨sl5,fp5,rfl,ho5,k5⟩
    have K5':Hid (Kp v3 v5 Nul):=k5
    have HO5:Hid (Own v5 v3.heap.size sl5 un.t fp5):=ho5
    have O5:Hid (sl5.oneCell'=true):=ho5.own.one
    clear k5 ho5
    by_cases hw1:wk=1
    ·subst hw1
     have HCs:Hid (csame un ua=true):=TW.out.2.1 (by trivial)
     gi_wp2_with (first
      | (refine storeIn_new' rfl 50 (.tmp 15) (.tmp 98) rfl _ _ _ _ (by first|rfl|simp) rfl rfl rfl infoContent (un.one O5.out) ?_;generalize hV6:v5.alloc (Obj.cells _ 50)=V6;have K56:Hid (Kp v5 V6 Nul):=(by show Kp _ _ _;rw[<- hV6];exact(Kp.refl _ _).alloc _);have HB15:Hid (Blk V6 v5.heap.size (un.cells sl5) 50):=(by show Blk _ _ _ _;rw[<- hV6];exact Blk.new v5 _ _);have KX6:Hid (Kp v3 V6 Nul):=K5'.out.trans K56.out;have lN0:V6.cell? ⟨v5.heap.size,0,none⟩=some (.int .i64 1):=(by rw[<- TW.out.1];exact HB15.out.cell rfl);have lW0:V6.cell? ⟨v1.heap.size,0,none⟩=some (.int .i64 1):=(by rw[<- HWK.out];exact(T14.out _ KX6.out).cell rfl);have z10:=(HSV.out.nul (TK.out.trans KX6.out)).c10;have z0:=z10.cell (i:=0) rfl;have z1:=z10.cell (i:=1) rfl;have z2:=z10.cell (i:=2) rfl;have z3:=z10.cell (i:=3) rfl;have zq:=HBV.out V6 (TK.out.trans KX6.out);have y0:=zq.cell (i:=0) rfl;have y1:=zq.cell (i:=1) rfl;clear hV6 z10 zq)
      | (refine loadIn_content rfl (.tmp 15) rfl v5.heap.size rfl (un.cells sl5).toArray (HB15.out) rfl ?_)
      | (refine loadIn_content rfl (.tmp 14) rfl v1.heap.size rfl (ua.cells sl1).toArray (T14.out _ KX6.out) rfl ?_)
      | fail)
     clear z0 z1 z2 z3 y0 y1
     have HSa:Hid (Calls Tryz.prog 21 #[.agg (un.cells sl5).toArray,.agg (ua.cells sl1).toArray] V6 fun e w'=>e=.returned (.bool true)/\Kp V6 w' Nul):=by
      have h:=gSame_at un ua sl5 sl1 (fun _=>True) (fun _=>True) V6 HXn.out.1 TX.out.1 HXn.out.2 TX.out.2 ((HO5.out.isIn.kp (K56.out) (fun _ _ x=>x)).mono (fun b hb hl=>⟨rfl,trivial⟩)) (TNd.out _ (KX6.out))
      rw[HCs.out] at h
      exact h
     refine⟨trivial,CallsIn.inRound _ ((callsIn_wide.2 HSa.out).mono ?_)⟩
     rintro e v7 ⟨rfl,kq⟩
     have KX7:Hid (Kp v3 v7 Nul):=KX6.out.trans kq
     have K67:Hid (Kp V6 v7 Nul):=kq
     clear kq lN0 lW0 HSa HCs
     have z10:=(HSV.out.nul (TK.out.trans KX7.out)).c10
     have z0:=z10.cell (i:=0) rfl
     have z1:=z10.cell (i:=1) rfl
     have z2:=z10.cell (i:=2) rfl
     have z3:=z10.cell (i:=3) rfl
     have zq:=HBV.out v7 (TK.out.trans KX7.out)
     have y0:=zq.cell (i:=0) rfl
     have y1:=zq.cell (i:=1) rfl
     clear z10 zq
     gi_wp2_with fail
     refine⟨trivial,CallsIn.inRound _ ((callsIn_wide.2 (HInB.out _)).mono ?_)⟩
     rintro e v8 ⟨rfl,k8⟩
     have KX8:Hid (Kp v3 v8 Nul):=(KX7.out).trans k8
     have K68:Hid (Kp V6 v8 Nul):=(K67.out).trans k8
     clear k8 z0 z1 z2 z3 y0 y1
     have HCs:Hid (csame un ua=true):=TW.out.2.2 (by trivial)
     gi_wp2_with (first
       | (refine loadIn_content rfl (.tmp 15) rfl v5.heap.size rfl (un.cells sl5).toArray (HB15.out.kp K68.out (fun x=>x)) rfl ?_)
       | (refine loadIn_content rfl (.tmp 14) rfl v1.heap.size rfl (ua.cells sl1).toArray (T14.out _ KX8.out) rfl ?_)
       | fail)
     have HSa:Hid (Calls Tryz.prog 21 #[.agg (un.cells sl5).toArray,.agg (ua.cells sl1).toArray] v8 fun e w'=>e=.returned (.bool true)/\Kp v8 w' Nul):=by
      have h:=gSame_at un ua sl5 sl1 (fun _=>True) (fun _=>True) v8 HXn.out.1 TX.out.1 HXn.out.2 TX.out.2 ((HO5.out.isIn.kp (K56.out.trans K68.out) (fun _ _ x=>x)).mono (fun b hb hl=>⟨rfl,trivial⟩)) (TNd.out _ (KX8.out))
      rw[HCs.out] at h
      exact h
     refine⟨trivial,CallsIn.inRound _ ((callsIn_wide.2 HSa.out).mono ?_)⟩
     rintro e v9 ⟨rfl,kq⟩
     have KE:Hid (Kp V v9 Nul):=(TK.out.trans KX8.out).trans kq
     clear kq HSa
     gi_wp2_with fail
     first
     | exact⟨rfl,HEnd.out _ KE.out⟩
     | exact HEnd.out _ KE.out
    ·have hwb:(wk==1)=false:=by simpa using hw1
     gi_wp2_with (first
      | (refine storeIn_new' rfl 50 (.tmp 15) (.tmp 98) rfl _ _ _ _ (by first|rfl|simp) rfl rfl rfl infoContent (un.one O5.out) ?_;generalize hV6:v5.alloc (Obj.cells _ 50)=V6;have K56:Hid (Kp v5 V6 Nul):=(by show Kp _ _ _;rw[<- hV6];exact(Kp.refl _ _).alloc _);have HB15:Hid (Blk V6 v5.heap.size (un.cells sl5) 50):=(by show Blk _ _ _ _;rw[<- hV6];exact Blk.new v5 _ _);have KX6:Hid (Kp v3 V6 Nul):=K5'.out.trans K56.out;have lN0:V6.cell? ⟨v5.heap.size,0,none⟩=some (.int .i64 wk):=(by rw[<- TW.out.1];exact HB15.out.cell rfl);have lW0:V6.cell? ⟨v1.heap.size,0,none⟩=some (.int .i64 wk):=(by rw[<- HWK.out];exact(T14.out _ KX6.out).cell rfl);have z10:=(HSV.out.nul (TK.out.trans KX6.out)).c10;have z0:=z10.cell (i:=0) rfl;have z1:=z10.cell (i:=1) rfl;have z2:=z10.cell (i:=2) rfl;have z3:=z10.cell (i:=3) rfl;have zq:=HBV.out V6 (TK.out.trans KX6.out);have y0:=zq.cell (i:=0) rfl;have y1:=zq.cell (i:=1) rfl;clear hV6 z10 zq)
      | fail)
     refine⟨trivial,?_⟩
     gi_wp2_with fail
     clear lN0 lW0
     refine⟨trivial,CallsIn.inRound _ ((callsIn_wide.2 (HInB.out _)).mono ?_)⟩
     rintro e v8 ⟨rfl,k8⟩
     have KX8:Hid (Kp v3 v8 Nul):=(KX6.out).trans k8
     have K68:Hid (Kp V6 v8 Nul):=((Kp.refl V6 Nul)).trans k8
     clear k8 z0 z1 z2 z3 y0 y1
     have HCs:Hid (csame un ua=true):=TW.out.2.2 (by trivial)
     gi_wp2_with (first
       | (refine loadIn_content rfl (.tmp 15) rfl v5.heap.size rfl (un.cells sl5).toArray (HB15.out.kp K68.out (fun x=>x)) rfl ?_)
       | (refine loadIn_content rfl (.tmp 14) rfl v1.heap.size rfl (ua.cells sl1).toArray (T14.out _ KX8.out) rfl ?_)
       | fail)
     have HSa:Hid (Calls Tryz.prog 21 #[.agg (un.cells sl5).toArray,.agg (ua.cells sl1).toArray] v8 fun e w'=>e=.returned (.bool true)/\Kp v8 w' Nul):=by
      have h:=gSame_at un ua sl5 sl1 (fun _=>True) (fun _=>True) v8 HXn.out.1 TX.out.1 HXn.out.2 TX.out.2 ((HO5.out.isIn.kp (K56.out.trans K68.out) (fun _ _ x=>x)).mono (fun b hb hl=>⟨rfl,trivial⟩)) (TNd.out _ (KX8.out))
      rw[HCs.out] at h
      exact h
     refine⟨trivial,CallsIn.inRound _ ((callsIn_wide.2 HSa.out).mono ?_)⟩
     rintro e v9 ⟨rfl,kq⟩
     have KE:Hid (Kp V v9 Nul):=(TK.out.trans KX8.out).trans kq
     clear kq HSa
     gi_wp2_with fail
     first
     | exact⟨rfl,HEnd.out _ KE.out⟩
     | exact HEnd.out _ KE.out
  case hdone=>
   subst hact
   rintro D Z W hD ⟨_,hKW⟩ hDf
   have HSW:Hid (MtS w W w1.heap.size w3.heap.size (w3.heap.size+1) (w3.heap.size+1+1) (w3.heap.size+1+1+1) p10 w6.heap.size g ga a1 a2 a3 a4 u1 u2 dc dr b3 b4 L M):=HS.out.nul hKW
   have HDf:Hid (W.heap[D]? = some (.deferred (some []))):=hDf
   have HDD:Hid (w10.heap.size<=D/\w.heap.size+1<w10.heap.size/\w.heap.size<=w10.heap.size):=⟨hD,HS.out.c4.lt,HS.out.kp.size⟩
   have HKw:Hid (∀X,Kp W X Nul->Kp w X Nul):=fun X k=>HSW.out.kp.trans k
   have Hav:Hid (vC a1 a2=true):=by show _=_;have:=vA_bd _ _ _ _ HAv.out;rw[vC_iff];omega
   have Huv:Hid (vC u1 u2=true):=by show _=_;have:=HF.out;rw[vC_iff];omega
   have HA1:Hid (Ar4.ok ((a1,a2),(a1,a2))=true):=vA_oneS Hav.out
   have Hf1:Hid (fits ((a1,a2),(a1,a2)) (u1,u2)=true):=by
    show fits _ _=true
    have h:mvTo ((a1,a2),(a1,a2)) (u1,u2)=((u1,u2),(u1,u2)):=by
     unfold mvTo
     simp only[Prod.mk.injEq,true_and]
     constructor <;> omega
    unfold fits
    rw[h]
    exact vA_oneS Huv.out
   have k5_0:W.cell? ⟨w1.heap.size,0,none⟩=some (.pointer (some ⟨g,0,none⟩)):=(HSW.out.nul (Kp.refl W Nul)).c5.cell rfl
   have k6_0:W.cell? ⟨w3.heap.size,0,none⟩=some (.int .i64 a1):=(HSW.out.nul (Kp.refl W Nul)).c6.cell rfl
   have k6_1:W.cell? ⟨w3.heap.size,1,none⟩=some (.int .i64 a2):=(HSW.out.nul (Kp.refl W Nul)).c6.cell rfl
   have k6_2:W.cell? ⟨w3.heap.size,2,none⟩=some (.int .i64 a3):=(HSW.out.nul (Kp.refl W Nul)).c6.cell rfl
   have k6_3:W.cell? ⟨w3.heap.size,3,none⟩=some (.int .i64 a4):=(HSW.out.nul (Kp.refl W Nul)).c6.cell rfl
   clear hD hKW hDf HBC HS HMem HpM HoM HFc HMv HSh hnm
   go_wp2_with fail
   clear k5_0 k6_0 k6_1 k6_2 k6_3
   refine(copy_onto g ((a1,a2),(a3,a4)) L W HSW.out.gi HOk.out (HVS.out W (HKw.out W (Kp.refl W Nul))) HAok.out).mono ?_
   rintro e W1 ⟨gs,Ms,rfl,hgs,hos,hons,hms,hk⟩
   have S1:Hid (Kp W W1 Nul):=hk
   have HGs:Hid (∀X,Kp W1 X Nul->GI 0 X gs Ms):=fun X k=>hgs.kp k
   have HEs:Hid (OkC Ms/\EqC Ms L):=⟨hos.okC,same_eqC hons HOn.out hms⟩
   clear hgs hos hons hms hk
   obtain⟨W2,hW2⟩:∃W2,W1.alloc (.cells #[.int .i64 a1,.int .i64 a2,.int .i64 a1,.int .i64 a2] 34)=W2:=⟨_,rfl⟩
   have HW2:Hid (W1.alloc (.cells #[.int .i64 a1,.int .i64 a2,.int .i64 a1,.int .i64 a2] 34)=W2):=hW2
   have k12:Kp W1 W2 Nul:=by rw[<- hW2];exact(Kp.refl _ _).alloc _
   have S2:Hid (Kp W W2 Nul):=S1.out.trans k12
   have S12:Hid (Kp W1 W2 Nul):=k12
   have hB17:Blk W2 W1.heap.size [.int .i64 a1,.int .i64 a2,.int .i64 a1,.int .i64 a2] 34:=by rw[<- hW2];exact Blk.new W1 _ _
   have r0:W2.cell? ⟨W1.heap.size,0,none⟩=some (.int .i64 a1):=hB17.cell rfl
   have r1:W2.cell? ⟨W1.heap.size,1,none⟩=some (.int .i64 a2):=hB17.cell rfl
   have r2:W2.cell? ⟨W1.heap.size,2,none⟩=some (.int .i64 a1):=hB17.cell rfl
   have r3:W2.cell? ⟨W1.heap.size,3,none⟩=some (.int .i64 a2):=hB17.cell rfl
   have k6_0:W1.cell? ⟨w3.heap.size,0,none⟩=some (.int .i64 a1):=(HSW.out.nul S1.out).c6.cell rfl
   have k6_1:W1.cell? ⟨w3.heap.size,1,none⟩=some (.int .i64 a2):=(HSW.out.nul S1.out).c6.cell rfl
   have k6_2:W1.cell? ⟨w3.heap.size,2,none⟩=some (.int .i64 a3):=(HSW.out.nul S1.out).c6.cell rfl
   have k6_3:W1.cell? ⟨w3.heap.size,3,none⟩=some (.int .i64 a4):=(HSW.out.nul S1.out).c6.cell rfl
   have k5_0:W2.cell? ⟨w1.heap.size,0,none⟩=some (.pointer (some ⟨g,0,none⟩)):=(HSW.out.nul S2.out).c5.cell rfl
   have k7_0:W2.cell? ⟨(w3.heap.size+1),0,none⟩=some (.int .i64 u1):=(HSW.out.nul S2.out).c7.cell rfl
   have k7_1:W2.cell? ⟨(w3.heap.size+1),1,none⟩=some (.int .i64 u2):=(HSW.out.nul S2.out).c7.cell rfl
   clear hW2 k12 hB17
   go_wp2_with (first|(rw[HW2.out])|fail)
   clear r0 r1 r2 r3 k6_0 k6_1 k6_2 k6_3 k5_0 k7_0 k7_1 HW2
   refine(copy_two g ((a1,a2),(a1,a2)) (u1,u2) L W2 (HSW.out.nul S2.out).gi HOk.out (HVS.out W2 (HKw.out W2 S2.out)) HA1.out Hf1.out).mono ?_
   rintro e W3 ⟨pv,pu,rfl,hR1⟩
   have HR1:Hid (Cp2 ((a1,a2),(a1,a2)) (u1,u2) L W2 W3 pv pu):=hR1
   have S23:Hid (Kp W2 W3 Nul):=by
    cases hR1 with
    | full _ _ _ _ k=>exact k
    | fit _ _ _ _ _ _ _ _ k=>exact k
   have S3:Hid (Kp W W3 Nul):=S2.out.trans S23.out
   have k5_0:W3.cell? ⟨w1.heap.size,0,none⟩=some (.pointer (some ⟨g,0,none⟩)):=(HSW.out.nul S3.out).c5.cell rfl
   have k6_0:W3.cell? ⟨w3.heap.size,0,none⟩=some (.int .i64 a1):=(HSW.out.nul S3.out).c6.cell rfl
   have k6_1:W3.cell? ⟨w3.heap.size,1,none⟩=some (.int .i64 a2):=(HSW.out.nul S3.out).c6.cell rfl
   have k6_2:W3.cell? ⟨w3.heap.size,2,none⟩=some (.int .i64 a3):=(HSW.out.nul S3.out).c6.cell rfl
   have k6_3:W3.cell? ⟨w3.heap.size,3,none⟩=some (.int .i64 a4):=(HSW.out.nul S3.out).c6.cell rfl
   have k7_0:W3.cell? ⟨(w3.heap.size+1),0,none⟩=some (.int .i64 u1):=(HSW.out.nul S3.out).c7.cell rfl
   have k7_1:W3.cell? ⟨(w3.heap.size+1),1,none⟩=some (.int .i64 u2):=(HSW.out.nul S3.out).c7.cell rfl
   clear hR1
   go_wp2_with fail
   clear k5_0 k6_0 k6_1 k6_2 k6_3 k7_0 k7_1
   refine(fill_pq g (a1,a2) (u1,u2) L W2 W3 pv pu (HSW.out.nul S3.out).gi HOk.out (HVS.out W3 (HKw.out W3 S3.out)) Hav.out Huv.out HR1.out).mono ?_
   rintro e W4 ⟨qv,qu,rfl,hJ,hk⟩
   have S34:Hid (Kp W3 W4 Nul):=hk
   have S4:Hid (Kp W W4 Nul):=S3.out.trans hk
   have HJ:Hid (∀X,Kp W4 X Nul->PqJ X pv pu qv qu):=fun X k=>hJ.kp k
   have k5_0:W4.cell? ⟨w1.heap.size,0,none⟩=some (.pointer (some ⟨g,0,none⟩)):=(HSW.out.nul S4.out).c5.cell rfl
   have k10_0:W4.cell? ⟨p10,0,none⟩=some (.int .i64 u1):=(HSW.out.nul S4.out).c10.cell rfl
   have k10_1:W4.cell? ⟨p10,1,none⟩=some (.int .i64 u2):=(HSW.out.nul S4.out).c10.cell rfl
   have k10_2:W4.cell? ⟨p10,2,none⟩=some (.int .i64 b3):=(HSW.out.nul S4.out).c10.cell rfl
   have k10_3:W4.cell? ⟨p10,3,none⟩=some (.int .i64 b4):=(HSW.out.nul S4.out).c10.cell rfl
   clear hJ hk
   go_wp2_with fail
   clear k5_0 k10_0 k10_1 k10_2 k10_3
   refine(clear_two g ((u1,u2),(b3,b4)) L W4 (HSW.out.nul S4.out).gi HOk.out (HVS.out W4 (HKw.out W4 S4.out)) HBv.out).mono ?_
   rintro e W5 ⟨gu,U,rfl,hgu,hou,honu,hmu,hk⟩
   obtain⟨W6,hW6⟩:∃W6,W5.alloc (.cells #[.pointer (some ⟨gu,0,none⟩)] 24)=W6:=⟨_,rfl⟩
   have HW6:Hid (W5.alloc (.cells #[.pointer (some ⟨gu,0,none⟩)] 24)=W6):=hW6
   have k56:Kp W5 W6 Nul:=by rw[<- hW6];exact(Kp.refl _ _).alloc _
   have S46:Hid (Kp W4 W6 Nul):=hk.trans k56
   have S6:Hid (Kp W W6 Nul):=S4.out.trans S46.out
   have H22:Hid (∀X,Kp W6 X Nul->Blk X W5.heap.size [.pointer (some ⟨gu,0,none⟩)] 24):=fun X k=>by
    have:Blk W6 W5.heap.size [.pointer (some ⟨gu,0,none⟩)] 24:=by rw[<- hW6];exact Blk.new W5 _ _
    exact this.kp k (fun x=>x)
   have HL22:Hid (W.heap.size<=W5.heap.size):=(S4.out.trans hk).size
   have HGu:Hid (∀X,Kp W6 X Nul->GI 0 X gu U):=fun X k=>(hgu.kp k56).kp k
   have HOu:Hid (Ok17 U):=hou
   have HonU:Hid (U.Pairwise (fun x y=>x.1≠y.1)):=honu
   have HmU:Hid (∀y,y∈U↔y∈L/\y∉inL u1 u2 b3 b4 L):=hmu
   have l22:=(H22.out W6 (Kp.refl _ _)).cell (i:=0) rfl
   have k10_0:W6.cell? ⟨p10,0,none⟩=some (.int .i64 u1):=(HSW.out.nul S6.out).c10.cell rfl
   have k10_1:W6.cell? ⟨p10,1,none⟩=some (.int .i64 u2):=(HSW.out.nul S6.out).c10.cell rfl
   have k10_2:W6.cell? ⟨p10,2,none⟩=some (.int .i64 b3):=(HSW.out.nul S6.out).c10.cell rfl
   have k10_3:W6.cell? ⟨p10,3,none⟩=some (.int .i64 b4):=(HSW.out.nul S6.out).c10.cell rfl
   clear hgu hou honu hmu hk hW6 k56
   go_wp2_with (first|(rw[HW6.out])|fail)
   clear l22 k10_0 k10_1 k10_2 k10_3 HW6
   refine(clear_two gu ((u1,u2),(b3,b4)) U W6 (HGu.out W6 (Kp.refl _ _)) HOu.out (HVS.out W6 (HKw.out W6 S6.out)) HBv.out).mono ?_
   rintro e W7 ⟨gv,V2,rfl,hgv,hov,honv,hmv,hk⟩
   have S67:Hid (Kp W6 W7 Nul):=hk
   have S7:Hid (Kp W W7 Nul):=S6.out.trans hk
   have HGv:Hid (∀X,Kp W7 X Nul->GI 0 X gv V2):=fun X k=>hgv.kp k
   have HEv:Hid (OkC V2/\EqC U V2):=⟨hov.okC,same_eqC HonU.out honv (fun x=>by
    rw[hmv]
    constructor
    ·intro h
     exact⟨h,(inL_not h).2 ((inL_not ((HmU.out x).1 h).1).1 ((HmU.out x).1 h).2)⟩
    ·exact fun h=>h.1)⟩
   clear hgv hov honv hmv hk
   go_upto_region 27 with fail
   go_cut[190] from 169 to 189 (fun s wz=>s=.bool false/\wz=W7)
   case first=>
    have l22:=(H22.out W7 S67.out).cell (i:=0) rfl
    have hn0:=nil_ptr'' gs
    have hn1:=nil_ptr'' gu
    have hn2:=nil_ptr'' gv
    have hJ:=HJ.out W7 (S46.out.trans S67.out)
    cases hJ with
    | no=>
     go_wp2_with fail
     go_meet
     case rel=>exact⟨rfl,rfl⟩
    | yes gp gq P Q h1 h2 o1 o2 he=>
     clear h1 h2 o1 o2 he
     go_wp2_with fail
     go_meet
     case rel=>exact⟨rfl,rfl⟩
   case rest=>
    obtain⟨rfl,hz⟩:=hcut
    rw[hz]
    clear hz
    go_upto_region 29 with fail
    go_cut[227] from 191 to 226 (fun s wz=>s=.bool false/\Kp W7 wz Nul)
    case first=>
     have HE1:Hid (∀X,Kp W7 X Nul->Calls Tryz.prog 24 #[.pointer (some ⟨gs,0,none⟩),.pointer (some ⟨g,0,none⟩)] X fun e w'=>e=.returned (.bool true)/\Kp X w' Nul):=fun X k=>by
      have h:=equal_at gs g Ms L X (HGs.out X (S12.out.trans (S23.out.trans (S34.out.trans (S46.out.trans (S67.out.trans k)))))) (HSW.out.nul (S7.out.trans k)).gi HEs.out.1 HOk.out.okC
      rw[eqC_true HEs.out.2] at h
      exact h
     have HE3:Hid (∀X,Kp W7 X Nul->Calls Tryz.prog 24 #[.pointer (some ⟨gu,0,none⟩),.pointer (some ⟨gv,0,none⟩)] X fun e w'=>e=.returned (.bool true)/\Kp X w' Nul):=fun X k=>by
      have h:=equal_at gu gv U V2 X (HGu.out X (S67.out.trans k)) (HGv.out X k) HOu.out.okC HEv.out.1
      rw[eqC_true HEv.out.2] at h
      exact h
     have l5:W7.cell? ⟨w1.heap.size,0,none⟩=some (.pointer (some ⟨g,0,none⟩)):=(HSW.out.nul S7.out).c5.cell rfl
     have hJ:=HJ.out W7 (S46.out.trans S67.out)
     cases hJ with
     | no=>
      go_wp2_with fail
      clear l5
      refine(HE1.out W7 (Kp.refl _ _)).mono ?_
      rintro e X1 ⟨rfl,kx⟩
      have KX1:Hid (Kp W7 X1 Nul):=kx
      have l22:=(H22.out X1 (S67.out.trans kx)).cell (i:=0) rfl
      clear kx
      go_wp2_with fail
      clear l22
      refine(HE3.out X1 KX1.out).mono ?_
      rintro e X2 ⟨rfl,kx⟩
      have KX2:Hid (Kp W7 X2 Nul):=KX1.out.trans kx
      clear kx
      go_wp2_with fail
      go_meet
      case rel=>exact⟨rfl,KX2.out⟩
     | yes gp gq P Q h1 h2 o1 o2 he=>
      have HE2:Hid (∀X,Kp W7 X Nul->Calls Tryz.prog 24 #[.pointer (some ⟨gp,0,none⟩),.pointer (some ⟨gq,0,none⟩)] X fun e w'=>e=.returned (.bool true)/\Kp X w' Nul):=fun X k=>by
       have h:=equal_at gp gq P Q X (h1.kp k) (h2.kp k) o1 o2
       rw[eqC_true he] at h
       exact h
      clear h1 h2 o1 o2 he
      go_wp2_with fail
      clear l5
      refine(HE1.out W7 (Kp.refl _ _)).mono ?_
      rintro e X1 ⟨rfl,kx⟩
      have KX1:Hid (Kp W7 X1 Nul):=kx
      clear kx
      go_wp2_with fail
      refine(HE2.out X1 KX1.out).mono ?_
      rintro e X2 ⟨rfl,kx⟩
      have KX2:Hid (Kp W7 X2 Nul):=KX1.out.trans kx
      have l22:=(H22.out X2 (S67.out.trans KX2.out)).cell (i:=0) rfl
      clear kx
      go_wp2_with fail
      clear l22
      refine(HE3.out X2 KX2.out).mono ?_
      rintro e X3 ⟨rfl,kx⟩
      have KX3:Hid (Kp W7 X3 Nul):=KX2.out.trans kx
      clear kx
      go_wp2_with fail
      go_meet
      case rel=>exact⟨rfl,KX3.out⟩
    case rest=>
     obtain⟨rfl,hk⟩:=hcut
     rename World=>W8
     have S68:Hid (Kp W6 W8 Nul):=S67.out.trans hk
     have S8:Hid (Kp W W8 Nul):=S7.out.trans hk
     clear hk
     obtain⟨W8b,hW8b⟩:∃W8b,W8.alloc (.cells #[.int .i64 0] 3)=W8b:=⟨_,rfl⟩
     have HW8b:Hid (W8.alloc (.cells #[.int .i64 0] 3)=W8b):=hW8b
     have S8b:Hid (Kp W8 W8b Nul):=by show Kp _ _ _;rw[<- hW8b];exact(Kp.refl _ _).alloc _
     have B26n:Hid (Blk W8b W8.heap.size [.int .i64 0] 3):=by show Blk _ _ _ _;rw[<- hW8b];exact Blk.new W8 _ _
     have HL26:Hid (W5.heap.size<W8.heap.size/\W.heap.size<=W8.heap.size):=⟨(H22.out W8 S68.out).lt,S8.out.size⟩
     clear hW8b
     go_wp2_with (first
      | (rw[HW8b.out])
      | (refine wpList_store_var rfl 3 (.tmp 26) (.const (.int .i64 0)) rfl W8.heap.size rfl (.int .i64 0) rfl rfl 3 _ B26n.out (by kernel_rfl) ?_;intro W9 hb9 hk9;have B26:Hid (Blk W9 W8.heap.size [.int .i64 0] 3):=hb9;have S89:Hid (Kp W8 W9 Nul):=S8b.out.trans' hk9 (fun i hi e=>by have e':i=W8.heap.size:=e;omega);have S69:Hid (Kp W6 W9 Nul):=S68.out.trans S89.out;have S9:Hid (Kp W W9 Nul):=S8.out.trans S89.out;have l5:W9.cell? ⟨w1.heap.size,0,none⟩=some (.pointer (some ⟨g,0,none⟩)):=(HSW.out.nul S9.out).c5.cell rfl;clear hb9 hk9 HW8b)
      | fail)
     clear l5
     refine(all22 g W9).mono ?_
     rintro e Wa ⟨y0,y1,rfl,hb0,hb1,hk⟩
     have HX0:Hid (Blk Wa y0 [.pointer (some ⟨g,0,none⟩)] 24):=hb0
     have HX1:Hid (Blk Wa y1 [.int .i64 1,.int .i64 1,.int .i64 256,.int .i64 4096] 34):=hb1
     have Sa:Hid (Kp W Wa Nul):=S9.out.trans hk
     have S6a:Hid (Kp W6 Wa Nul):=S69.out.trans hk
     have S8a:Hid (Kp W8 Wa Nul):=S89.out.trans hk
     have C26:Hid (Blk Wa W8.heap.size [.int .i64 0] 3):=B26.out.kp hk (fun x=>x)
     clear hb0 hb1 hk
     obtain⟨K2,hK2s,hK2m⟩:=in_order HOn.out
     have HK2s:Hid (Strict (K2.map (·.1))):=hK2s
     have HK2m:Hid (∀x,x∈K2↔x∈L):=hK2m
     have HK2l:Hid (K2.length<=4096):=by
      show _<=_
      rw[same_len (strict_once hK2s) HOn.out hK2m]
      exact HOk.out.len
     clear hK2s hK2m
     go_wp2_with fail
     have hl26:=HL26.out
     have hl8:=C26.out.lt
     have hsa:=Sa.out.size
     generalize hact2:Act.mk _ _=a2x
     refine wp_range_ow3 (α:=(Cc×Value)×List Nat) (N:=K2.length) (gf:=97) (lb:=#[.pointer (some ⟨y0,0,none⟩),.pointer (some ⟨y1,0,none⟩)]) (by rw[<- hact2];rfl) (enters_of Tryz.func97 (by kernel_rfl) rfl) (encs:=encQ) wtQ (fun _=>rfl) (TellQ Wa K2) ?hT2 (fun i=>i=W8.heap.size) ?hseq2 (fun k Z X=>(∀i,Z i↔i=W8.heap.size)/\Blk X W8.heap.size [.int .i64 (cntA u1 u2 b3 b4 K2 k:Nat)] 3/\Kp Wa X (fun i=>i=W8.heap.size)) ?hZ2 ?hZl2 ?hI2 (fun _=>False) ?hIx2 (fun i=>i=W8.heap.size) ?h02 ?hround2 ?hdone2 ?hstop2
     case hT2=>rintro k x Z V ⟨_,_,_,h⟩;exact⟨fun q=>by have:=(h _ q).1;omega,fun q=>by have:=(h _ q).1;omega⟩
     case hseq2=>
      refine in1_seq3 g y0 y1 W.heap.size L K2 Wa _ (HSW.out.nul Sa.out).gi (HSW.out.gi.low.kp Sa.out) HOk.out.gd HOk.out.at' HOk.out.len HK2s.out HK2m.out hsa (fun i e=>?_) HX0.out HX1.out
      have e':i=W8.heap.size:=e
      omega
     case hZ2=>
      rintro k Z X ⟨h,_,_⟩
      exact⟨fun q=>by have:=(h _).1 q;omega,fun q=>by have:=(h _).1 q;omega⟩
     case hZl2=>
      rintro k Z X ⟨h,hb,_⟩
      exact⟨fun i hi=>by have:=(h i).1 hi;have:=hb.lt;omega,fun i _ hi=>(h i).1 hi⟩
     case hI2=>
      rintro k Z X X' ⟨h,hb,hk⟩ q
      exact⟨h,hb.kp q (fun e=>by rcases e with e|e <;> omega),hk.trans' q (fun i hi e=>by rcases e with e|e <;> omega)⟩
     case hIx2=>exact fun _ _ h _=>h
     case h02=>exact⟨fun i=>Iff.rfl,by unfold cntA;exact C26.out,Kp.refl _ _⟩
     case hstop2=>exact fun _ _ _ h=>h.elim
     case hround2=>
      subst hact2
      rintro k ⟨⟨⟨⟨c,s⟩,a⟩,sl⟩,fp⟩ Z V0 KK hkN hsW ⟨hZ,hb,hkp⟩ ⟨hKk,_,_,_⟩ hcont
      have HZ:Hid (∀i,Z i↔i=W8.heap.size):=hZ
      have HKk:Hid (K2[k]? = some ((c,s),a)):=hKk
      have HmL:Hid (((c,s),a)∈L):=(HK2m.out _).1 (List.mem_of_getElem? hKk)
      have HvC:Hid (vC c s=true):=HOk.out.at' _ HmL.out
      have HSW2:Hid (Wa.heap.size+2<=V0.heap.size):=hsW
      obtain⟨n,hn⟩:∃n,cntA u1 u2 b3 b4 K2 k=n:=⟨_,rfl⟩
      have HCn:Hid (cntA u1 u2 b3 b4 K2 k=n):=hn
      have hnl:(n:Int)+1<=9223372036854775807:=by
       have:=cntA_le u1 u2 b3 b4 K2 k
       have:=HK2l.out
       omega
      rw[hn] at hb
      have HB0:Hid (Blk V0 W8.heap.size [.int .i64 n] 3):=hb
      have HK0:Hid (Kp Wa V0 (fun i=>i=W8.heap.size)):=hkp
      clear hZ hb hkp hKk hsW hn HX0 HX1 C26
      simp only[List.zip_toArray,List.zip_cons_cons,List.zip_nil_right,List.foldl_toArray',List.foldl_cons,List.foldl_nil]
      gi_wp2_with (fail)
      refine hcont _ _ ((Kp.refl V0 Nul).alloc _) (fun V hV _=>?_)
      have hWV:Kp V0 V (fun i=>i=Wa.heap.size+1):=(((Kp.refl V0 Nul).alloc _).mono (fun _ _ q=>q.elim)).trans hV
      have HB26:Hid (∀X,Kp V X Nul->Blk X W8.heap.size [.int .i64 n] 3):=fun X k=>(HB0.out.kp hWV (fun e=>by have e':W8.heap.size=Wa.heap.size+1:=e;omega)).kp k (fun x=>x)
      have HKV:Hid (Kp Wa V (fun i=>i=W8.heap.size)):=HK0.out.trans' hWV (fun i hi e=>by have e':i=Wa.heap.size+1:=e;omega)
      have HWV:Hid (Kp W V Nul):=Sa.out.trans' HKV.out (fun i hi e=>by have e':i=W8.heap.size:=e;omega)
      have HbA:Hid (∀X,Kp V X Nul->Blk X V0.heap.size [.int .i64 c,.int .i64 s] 32):=fun X k=>((Blk.new V0 [.int .i64 c,.int .i64 s] 32).kp hV (fun e=>by have e':V0.heap.size=Wa.heap.size+1:=e;have:=HSW2.out;omega)).kp k (fun x=>x)
      have H22V:Hid (∀X,Kp V X Nul->Blk X W5.heap.size [.pointer (some ⟨gu,0,none⟩)] 24):=fun X k=>((H22.out Wa S6a.out).kp HKV.out (fun e=>by have e':W5.heap.size=W8.heap.size:=e;omega)).kp k (fun x=>x)
      have HVa:Hid (V0.heap.size<V.heap.size):=(HbA.out V (Kp.refl _ _)).lt
      obtain⟨qB,hqB⟩:∃q,inA u1 u2 b3 b4 c s=q:=⟨_,rfl⟩
      have HqB:Hid (inA u1 u2 b3 b4 c s=qB):=hqB
      have HInB:Hid (∀wq,Calls Tryz.prog 20 #[.agg #[.int .i64 u1,.int .i64 u2,.int .i64 b3,.int .i64 b4],.agg #[.int .i64 c,.int .i64 s]] wq fun e w'=>e=.returned (.bool qB)/\Kp wq w' Nul):=fun wq=>(pIn_any u1 u2 b3 b4 c s wq).mono fun e w' h=>⟨by rw[h.1,<- hqB],Kp.of_gr h.2⟩
      have HNx:Hid (cntA u1 u2 b3 b4 K2 (k+1)=n+(if qB=true then 0 else 1)):=by
       have h:=cntA_next (b1:=u1) (b2:=u2) (b3:=b3) (b4:=b4) HKk.out
       rw[HCn.out,hqB] at h
       exact h
      have z10:=(HSW.out.nul HWV.out).c10
      have z0:=z10.cell (i:=0) rfl
      have z1:=z10.cell (i:=1) rfl
      have z2:=z10.cell (i:=2) rfl
      have z3:=z10.cell (i:=3) rfl
      have zq:=HbA.out V (Kp.refl _ _)
      have y0:=zq.cell (i:=0) rfl
      have y1:=zq.cell (i:=1) rfl
      clear hcont hV hWV hqB z10 zq
      gi_wp2_with fail
      clear z0 z1 z2 z3 y0 y1
      refine⟨trivial,(callsIn_wide.2 (HInB.out _)).mono ?_⟩
      rintro e v1 ⟨rfl,k1⟩
      have KV1:Hid (Kp V v1 Nul):=k1
      clear k1
      cases qB with
      | true=>
       have hN:Blk v1 W8.heap.size [.int .i64 (cntA u1 u2 b3 b4 K2 (k+1):Nat)] 3:=by
        rw[HNx.out];exact HB26.out v1 KV1.out
       have HE:Hid ((∃Z',((∀i,Z' i↔i=W8.heap.size)/\Blk v1 W8.heap.size [.int .i64 (cntA u1 u2 b3 b4 K2 (k+1):Nat)] 3/\Kp Wa v1 (fun i=>i=W8.heap.size))/\More Z Z' V0)/\Kp V v1 (fun i=>(Z i∨wtQ ((((c,s),a),sl),fp) i)∨V0.heap.size<=i)):=⟨⟨Z,⟨HZ.out,hN,HKV.out.trans KV1.out.of_nul⟩,fun i hi=>.inl hi⟩,KV1.out.of_nul⟩
       clear hN
       gi_wp2_with fail
       first
       | exact⟨rfl,HE.out.2,HE.out.1⟩
       | exact⟨HE.out.2,HE.out.1⟩
      | false=>
       have B1:Hid (Blk v1 W8.heap.size [.int .i64 n] 3):=HB26.out v1 KV1.out
       have l26:=B1.out.cell (i:=0) rfl
       gi_wp2_with (first
        | (refine storeIn_var rfl 3 (.tmp 26) (.tmp 237) rfl W8.heap.size rfl (.int .i64 ((n:Int)+1)) rfl rfl 3 _ B1.out (by kernel_rfl) ?_;intro v2 hb2 hk2;have B2:Hid (Blk v2 W8.heap.size [.int .i64 ((n:Int)+1)] 3):=hb2;have KV2:Hid (Kp V v2 (fun i=>i=W8.heap.size)):=KV1.out.of_nul.trans hk2;have K12:Hid (Kp v1 v2 (fun i=>i=W8.heap.size)):=hk2;clear hb2 hk2)
        | fail)
       clear l26
       have HW2:Hid (∀X,Kp v2 X Nul->Kp W X Nul):=fun X k=>(HWV.out.trans' KV2.out (fun i hi e=>by have e':i=W8.heap.size:=e;omega)).trans k
       have L22:Hid (∀X,Kp v2 X Nul->Blk X W5.heap.size [.pointer (some ⟨gu,0,none⟩)] 24):=fun X k=>((H22V.out V (Kp.refl _ _)).kp KV2.out (fun e=>by have e':W5.heap.size=W8.heap.size:=e;omega)).kp k (fun x=>x)
       have L27:Hid (∀X,Kp v2 X Nul->Blk X V0.heap.size [.int .i64 c,.int .i64 s] 32):=fun X k=>((HbA.out V (Kp.refl _ _)).kp KV2.out (fun e=>by have e':V0.heap.size=W8.heap.size:=e;have:=HSW2.out;omega)).kp k (fun x=>x)
       have hGu2:GI 0 v2 gu U:=(((HGu.out W8 S68.out).low.kp S8a.out).far' (HKV.out.trans KV2.out) (fun i hi e=>by have e':i=W8.heap.size:=e;omega)).mono (fun _ _=>Nat.zero_le _)
       obtain⟨cu,hcu,hux,huo,hGU⟩:=get_any gu U v2 hGu2 HOu.out c s (by have:=(vC_iff _ _).1 HvC.out;unfold I64;omega) (by have:=(vC_iff _ _).1 HvC.out;unfold I64;omega)
       obtain⟨cl,hcl,hlx,hlo,hGL⟩:=get_any g L v2 (HSW.out.nul (HW2.out v2 (Kp.refl _ _))).gi HOk.out c s (by have:=(vC_iff _ _).1 HvC.out;unfold I64;omega) (by have:=(vC_iff _ _).1 HvC.out;unfold I64;omega)
       have HGU:Hid (∀wq,Kp v2 wq Nul->Calls Tryz.prog 19 #[.pointer (some ⟨gu,0,none⟩),.agg #[.int .i64 c,.int .i64 s]] wq fun e w'=>∃sl' fp,e=.returned (cu.val sl')/\Own w' wq.heap.size sl' cu.t fp/\Kp wq w' Nul):=hGU
       have HGL:Hid (∀wq,Kp v2 wq Nul->Calls Tryz.prog 19 #[.pointer (some ⟨g,0,none⟩),.agg #[.int .i64 c,.int .i64 s]] wq fun e w'=>∃sl' fp,e=.returned (cl.val sl')/\Own w' wq.heap.size sl' cl.t fp/\Kp wq w' Nul):=hGL
       have ecl:cl=a:=rd_in HOn.out hcl HmL.out
       have ecu:cu=a:=rd_in HonU.out hcu ((HmU.out _).2 ⟨HmL.out,(inL_not HmL.out).2 HqB.out⟩)
       have HCs:Hid (csame cu cl=true):=by show _=_;rw[ecl,ecu];exact csame_refl a
       have HXu:Hid ((cu.v.x<18446744073709551616/\cu.t.ok)/\(cl.v.x<18446744073709551616/\cl.t.ok)):=⟨⟨hux,huo⟩,⟨hlx,hlo⟩⟩
       have HEn:Hid (∀X,Kp v2 X Nul->((∃Z',((∀i,Z' i↔i=W8.heap.size)/\Blk X W8.heap.size [.int .i64 (cntA u1 u2 b3 b4 K2 (k+1):Nat)] 3/\Kp Wa X (fun i=>i=W8.heap.size))/\More Z Z' V0)/\Kp V X (fun i=>(Z i∨wtQ ((((c,s),a),sl),fp) i)∨V0.heap.size<=i)))   := fun X kX=>by
        have hb:Blk X W8.heap.size [.int .i64 (cntA u1 u2 b3 b4 K2 (k+1):Nat)] 3:=by
         rw[HNx.out];exact B2.out.kp kX (fun x=>x)
        exact⟨⟨Z,⟨HZ.out,hb,HKV.out.trans (KV2.out.trans kX.of_nul)⟩,fun i hi=>.inl hi⟩,(KV2.out.trans kX.of_nul).mono (fun i _ q=>Or.inl (Or.inl ((HZ.out i).2 q)))⟩
       clear hGu2 hcu hux huo hGU hcl hlx hlo hGL ecl ecu
       refine regIn_noPanic ?_
       refine regIn_held (fun w':World=>Kp v2 w' Nul) (by kernel_rfl) (by kernel_rfl) (noPanic_lets (fun a w h=>Or.elim h (fun q=>Exit.noConfusion (And.left q)) (fun q=>Exit.noConfusion (And.left q)))) ((Kp.refl v2 Nul).drew) (fun hHeld=>?_)
       refine wpH_takes (i:=0) (v:=.pointer (some ⟨gu,0,none⟩)) (some 238) rfl rfl (by kernel_rfl) (fun _ _ _ h=>h) (Or.inl ⟨by rfl,?_⟩) hHeld ?_
       ·intro w' hSw;have s0:=(L22.out w' hSw).cell (i:=0) rfl;clear hSw;go_simp
       simp only[Act.put,Sz0,Sz1,Sz2]
       refine wpH_takes (i:=1) (v:=.agg #[.int .i64 c,.int .i64 s]) (some 239) rfl rfl (by kernel_rfl) (fun _ _ _ h=>h) (Or.inl ⟨by rfl,fun w' hSw=>exec_load_row 32 (.tmp 27) rfl V0.heap.size 0 rfl [.int .i64 c,.int .i64 s] _ (blk_range (L27.out w' hSw)) Tryz.underlying32 rfl infoAddr2'⟩) hHeld ?_
       simp only[Act.put,Sz0,Sz1,Sz2]
       refine wpH_takes (i:=3) (v:=.pointer (some ⟨g,0,none⟩)) (some 241) rfl rfl (by kernel_rfl) (fun _ _ _ h=>h) (Or.inl ⟨by rfl,?_⟩) hHeld ?_
       ·intro w' hSw;have s0:=(HSW.out.nul (HW2.out w' hSw)).c5.cell (i:=0) rfl;clear hSw;go_simp
       simp only[Act.put,Sz0,Sz1,Sz2]
       refine wpH_takes (i:=4) (v:=.agg #[.int .i64 c,.int .i64 s]) (some 242) rfl rfl (by kernel_rfl) (fun _ _ _ h=>h) (Or.inl ⟨by rfl,fun w' hSw=>exec_load_row 32 (.tmp 27) rfl V0.heap.size 0 rfl [.int .i64 c,.int .i64 s] _ (blk_range (L27.out w' hSw)) Tryz.underlying32 rfl infoAddr2'⟩) hHeld ?_
       simp only[Act.put,Sz0,Sz1,Sz2]
       refine wpH_step (i:=2) (by kernel_rfl) rfl rfl (fun K hK=>?_)
       go_simp
       refine(HGU.out _ ((Kp.refl v2 Nul).drew)).mono ?_
       rintro e s1 ⟨slu,fpu,rfl,hou,hk2⟩
       have T1:Hid (Kp v2 s1 Nul):=((Kp.refl v2 Nul).drew).trans hk2
       have HOu1:Hid (NdIn s1 (fun _=>True) slu cu.t):=hou.isIn.mono (fun b hb hl=>⟨rfl,trivial⟩)
       refine hK.out _ _ T1.out (fun hHeld=>?_)
       clear hK K hk2 hou
       (try simp only[Act.put,Sz0,Sz1,Sz2])
       refine wpH_step (i:=5) (by kernel_rfl) rfl rfl (fun K hK=>?_)
       go_simp
       refine(HGL.out _ T1.out).mono ?_
       rintro e s2 ⟨sll,fpl,rfl,hol,hk2⟩
       have T2:Hid (Kp v2 s2 Nul):=T1.out.trans hk2
       have HSa:Hid (Calls Tryz.prog 21 #[.agg (cu.cells slu).toArray,.agg (cl.cells sll).toArray] s2 fun e w'=>e=.returned (.bool true)/\Kp s2 w' Nul):=by
        have h:=gSame_at cu cl slu sll (fun _=>True) (fun _=>True) s2 HXu.out.1.1 HXu.out.2.1 HXu.out.1.2 HXu.out.2.2 (HOu1.out.kp hk2 (fun _ _ x=>x)) (hol.isIn.mono (fun b hb hl=>⟨rfl,trivial⟩))
        rw[HCs.out] at h
        exact h
       refine hK.out _ _ T2.out (fun hHeld=>?_)
       clear hK K hk2 hol
       (try simp only[Act.put,Sz0,Sz1,Sz2])
       refine wpH_step (i:=6) (by kernel_rfl) rfl rfl (fun K hK=>?_)
       go_simp
       refine HSa.out.mono ?_
       rintro e s3 ⟨rfl,hk2⟩
       have T3:Hid (Kp v2 s3 Nul):=T2.out.trans hk2
       refine hK.out _ _ T3.out (fun hHeld=>?_)
       clear hK K hk2 HSa
       (try simp only[Act.put,Sz0,Sz1,Sz2])
       refine wpH_takes (i:=7) (v:=.bool false) (some 245) rfl rfl (by kernel_rfl) (fun _ _ _ h=>h) (Or.inl ⟨by rfl,?_⟩) hHeld ?_
       ·intro w' hSw;clear hSw;go_simp
       simp only[Act.put,Sz0,Sz1,Sz2]
       refine wpAnyH_done (by kernel_rfl) ?_ _
       refine NoPanic.normal ?_
       have HE:=HEn.out s3 T3.out
       gi_wp2_with fail
       all_goals first
       | exact⟨rfl,HE.2,HE.1⟩
       | exact⟨HE.2,HE.1⟩
     case hdone2=>
      subst hact2
      rintro D2 Z2 Wz hD2 ⟨hZ2,hb2,hk2⟩ hDf2
      have HD2:Hid (D2=Wa.heap.size):=hD2
      have KZ:Hid (Kp Wa Wz (fun i=>i=W8.heap.size)):=hk2
      have SZ:Hid (Kp W Wz Nul):=Sa.out.trans' hk2 (fun i hi e=>by have e':i=W8.heap.size:=e;omega)
      have HN:cntA u1 u2 b3 b4 K2 K2.length=U.length:=cntA_all (strict_once HK2s.out) HK2m.out HonU.out HmU.out
      rw[HN] at hb2
      obtain⟨nU,hnU⟩:∃n,U.length=n:=⟨_,rfl⟩
      rw[hnU] at hb2
      have HB26z:Hid (Blk Wz W8.heap.size [.int .i64 (nU:Nat)] 3):=hb2
      have HB22z:Hid (Blk Wz W5.heap.size [.pointer (some ⟨gu,0,none⟩)] 24):=(H22.out Wa S6a.out).kp hk2 (fun e=>by have e':W5.heap.size=W8.heap.size:=e;omega)
      have HB4z:Hid (Blk Wz (w.heap.size+1) [.bool false] 4):=(HSW.out.nul SZ.out).c4
      have HGuz:Hid (GI 0 Wz gu U):=(((HGu.out W8 S68.out).low.kp S8a.out).far' hk2 (fun i hi e=>by have e':i=W8.heap.size:=e;omega)).mono (fun _ _=>Nat.zero_le _)
      have HLn:Hid (∀wq,Kp Wz wq Nul->Calls Tryz.prog 26 #[.pointer (some ⟨gu,0,none⟩)] wq fun e w'=>e=.returned (.int .i64 (nU:Nat))/\Kp wq w' Nul):=fun wq k=>(len_at wq _ gu U (HGuz.out.kp k)).mono fun e w' h=>⟨by rw[h.1,hnU],by rw[h.2];exact Kp.refl _ _⟩
      have HDF2:Hid (Wz.heap[D2]? = some (.deferred (some []))):=hDf2
      have HDFz:Hid (Wz.heap[D]? = some (.deferred (some []))):=(SZ.out.block D (Array.getElem?_eq_some_iff.1 HDf.out).1 (fun x=>x)).trans HDf.out
      have HDD2:Hid (D<Wa.heap.size/\w.heap.size+1<Wa.heap.size/\w.heap.size<=Wa.heap.size):=by
       have h1:=HDD.out
       have h2:=(Array.getElem?_eq_some_iff.1 HDf.out).1
       exact⟨by omega,by omega,by omega⟩
      have HN4:Hid (¬W5.heap.size=w.heap.size+1/\¬W8.heap.size=w.heap.size+1):=by
       have h1:=HDD.out
       have h2:=(Array.getElem?_eq_some_iff.1 HDf.out).1
       have h3:=HL26.out
       have h4:=HL22.out
       exact⟨by omega,by omega⟩
      clear hD2 hZ2 hb2 hk2 hDf2 HX0 HX1 C26 HN hnU
      go_upto_region 38 with fail
      refine wp_region_noPanic ?_
      refine wp_region_hel (fun w':World=>Kp Wz w' (fun i=>i=w.heap.size+1)) (by kernel_rfl) ((Kp.refl _ _).drew) (fun hHeld=>?_)
      refine wpH_takes (i:=0) (v:=.pointer (some ⟨gu,0,none⟩)) (some 246) rfl rfl (by kernel_rfl) (fun _ _ _ h=>h) (Or.inl ⟨by rfl,?_⟩) hHeld ?_
      ·intro w' hSw;have s0:=(HB22z.out.kp hSw (fun e=>HN4.out.1 e)).cell (i:=0) rfl;clear hSw;go_simp
      simp only[Act.put,Sz0,Sz1,Sz2]
      refine wpH_takes (i:=2) (v:=.int .i64 (nU:Nat)) (some 248) rfl rfl (by kernel_rfl) (fun _ _ _ h=>h) (Or.inl ⟨by rfl,?_⟩) hHeld ?_
      ·intro w' hSw;have s0:=(HB26z.out.kp hSw (fun e=>HN4.out.2 e)).cell (i:=0) rfl;clear hSw;go_simp
      simp only[Act.put,Sz0,Sz1,Sz2]
      refine wpH_step (i:=1) (by kernel_rfl) rfl rfl (fun K hK=>?_)
      go_simp
      refine(HLn.out _ (Kp.refl Wz Nul).drew).mono ?_
      rintro e x1 ⟨rfl,hk2⟩
      have E1:Hid (Kp Wz x1 Nul):=(Kp.refl Wz Nul).drew.trans hk2
      refine hK.out _ _ (E1.out.of_nul) (fun hHeld=>?_)
      clear hK K hk2
      (try simp only[Act.put,Sz0,Sz1,Sz2])
      refine wpH_takes (i:=3) (v:=.bool true) (some 249) rfl rfl (by kernel_rfl) (fun _ _ _ h=>h) (Or.inl ⟨by rfl,?_⟩) hHeld ?_
      ·intro w' hSw;clear hSw;go_simp
      simp only[Act.put,Sz0,Sz1,Sz2]
      refine wpH_step (i:=4) (by kernel_rfl) rfl rfl (fun K hK=>?_)
      refine wp_store_var 4 (.tmp 4) (.tmp 249) rfl (w.heap.size+1) rfl (.bool true) rfl rfl 4 (.bool false) (HB4z.out.kp E1.out (fun x=>x)) (by kernel_rfl) ?_
      intro Y hbY hkY
      have HBY:Hid (Blk Y (w.heap.size+1) [.bool true] 4):=hbY
      have HKY:Hid (Kp Wz Y (fun i=>i=w.heap.size+1)):=E1.out.of_nul.trans hkY
      refine hK.out _ _ HKY.out (fun _=>?_)
      clear hK K hbY hkY hHeld
      (try simp only[Act.put])
      refine wpAnyH_done (by kernel_rfl) ?_ _
      refine NoPanic.normal ?_
      go_wp2_with fail
      have hne:¬w.heap.size+1=D:=by have:=HDD.out;omega
      have hne2:¬w.heap.size+1=D2:=by have:=HDD2.out;have:=HD2.out;omega
      have hne3:¬D=D2:=by have:=HDD2.out;have:=HD2.out;omega
      have hd2:Y.heap[D2]? = some (.deferred (some [])):=(HKY.out.block D2 (Array.getElem?_eq_some_iff.1 HDF2.out).1 (fun e=>hne2 (Eq.symm e))).trans HDF2.out
      have hd1':Y.heap[D]? = some (.deferred (some [])):=(HKY.out.block D (Array.getElem?_eq_some_iff.1 HDFz.out).1 (fun e=>hne (Eq.symm e))).trans HDFz.out
      have hd1:(Y.putObj D2 (.deferred none)).heap[D]? = some (.deferred (some [])):=(putObj_self.block D (Array.getElem?_eq_some_iff.1 hd1').1 (fun e=>hne3 e)).trans hd1'
      refine⟨by simp,.inl ⟨_,_,rfl,run_takeDeferred hd2,?_⟩⟩
      refine⟨by simp,.inl ⟨_,_,rfl,run_takeDeferred hd1,?_⟩⟩
      have q1:Blk ((Y.putObj D2 (.deferred none)).putObj D (.deferred none)) (w.heap.size+1) [.bool true] 4:=(HBY.out.kp putObj_self (fun e=>hne2 e)).kp putObj_self (fun e=>hne e)
      refine⟨_,results_bool rfl rfl q1,rfl,?_⟩
      refine putObj_kp (putObj_kp ((HSW.out.kp.trans SZ.out).trans' HKY.out (fun i hi e=>by have e':i=w.heap.size+1:=e;omega)) ?_) ?_
      ·have:=HDD2.out;have:=HD2.out;omega
      ·have:=HDD.out;omega
end Go.Proofs.YtecjfnkakodebaaGreatDoor
