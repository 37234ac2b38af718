/-formula's firstError and Check. -/
import Derived.Test.YtecjfnkakodebaaGreatDoorQwQn
import Derived.Test.YtecjfnkakodebaaGreatDoorQwQr
set_option maxRecDepth 20000
set_option maxHeartbeats 8000000
namespace Go.Proofs.YtecjfnkakodebaaGreatDoor
open Go.RowKit
attribute [local irreducible] Nd.fe feL
def Okto (ts:List Nd) (c:Bool) (q:Nat):Prop:=∀i (h:i<ts.length),i<q->(ts[i]).fe c=0
theorem firstError_any (N:Nat):∀(t:Nd) (sl:Value) (F:Nat->Prop) (called:Bool) (w:World),t.size<=N->t.ok->NdIn w F sl t->VS w ->
  Calls Tryz.prog 121 #[t.hd.val sl,.bool called] w fun e w'=>e=.returned (.int .i64 (t.fe called))/\Kp w w' Nul:=by
 induction N with
 | zero=>intro t sl F called w h;have:=size_pos t;omega
 | succ N ih=>
  intro t sl F called w hN hok hin hU
  obtain⟨hd,ts⟩:=t
  rw[NdIn] at hin
  obtain⟨a,c,rfl,h2,h3,h4⟩:=hin
  have hsz:Hid ((Nd.mk hd ts).size=1+sizeL ts):=by show _=_;rw[Nd.size]
  have hfe:Hid ((Nd.mk hd ts).fe called=if ownE hd ts.length called≠0 then ownE hd ts.length called else feL ts (hd.k==9)):=by show _=_;rw[Nd.fe]
  have HN:Hid ((Nd.mk hd ts).size<=N+1):=hN
  have HOK:Hid (okL ts):=hok.l
  have IH:Hid (∀(t:Nd) (sl:Value) (F:Nat->Prop) (called:Bool) (w:World),t.size<=N->t.ok->NdIn w F sl t->VS w ->
   Calls Tryz.prog 121 #[t.hd.val sl,.bool called] w fun e w'=>e=.returned (.int .i64 (t.fe called))/\Kp w w' Nul):=ih
  have hlen:ts.length<=9223372036854775807:=by unfold maxLen at h3;omega
  have H4:Hid ((ts=[]/\(c=0∨a≠none))∨∃b o,a=some ⟨b,o,none⟩/\F b/\NdsIn w F b o ts):=h4
  have HO:Hid (∀wq,Kp w wq Nul->Calls Tryz.prog 149 #[hd.val (.slice a ts.length c),.bool called] wq fun e w'=>e=.returned (.int .i64 (ownE hd ts.length called))/\Kp wq w' Nul):=fun wq hq=>ownError_at hd ts.length a c called hok.x wq (hU.kp hq)
  have HU:Hid (VS w):=hU
  clear ih hN h4 h2 h3 hok hU
  generalize hn:ts.length=n at *
  have HL:Hid (ts.length=n):=hn
  have HLEN:Hid (n<=9223372036854775807):=hlen
  clear hn hlen
  generalize hSS:(Nd.mk hd ts).fe called=S at *
  simp only[Nd.hd]
  obtain⟨W1,hW1⟩:∃W1,w.alloc (.cells (hd.cells (.slice a n c)).toArray 48)=W1:=⟨_,rfl⟩
  have k1:Kp w W1 Nul:=by rw[<- hW1];exact(Kp.refl w Nul).alloc _
  have b1:Blk W1 w.heap.size (hd.cells (.slice a n c)) 48:=by rw[<- hW1];exact Blk.new w _ _
  have HW1:Hid (w.alloc (.cells #[.int .i64 hd.k,.int .i64 hd.o,.float .f64 hd.x,.string hd.s,.bool hd.b,.int .i64 hd.f,.int .i64 hd.c1,.int .i64 hd.r1,.bool hd.p1,.bool hd.q1,.int .i64 hd.c2,.int .i64 hd.r2,.bool hd.p2,.bool hd.q2,.slice a n c] 48)=W1):=hW1
  have HO1:Hid (Calls Tryz.prog 149 #[hd.val (.slice a n c),.bool called] W1 fun e w'=>e=.returned (.int .i64 (ownE hd n called))/\Kp W1 w' Nul):=HO.out W1 k1
  have HB:Hid (∀wq,Kp W1 wq Nul->Blk wq w.heap.size (hd.cells (.slice a n c)) 48):=fun wq hq=>b1.kp hq (fun x=>x)
  have HK1:Hid (Kp w W1 Nul):=k1
  generalize hOE:ownE hd n called=OE at *
  clear hW1 k1 b1 HO hSS hOE
  go_enter Tryz.func121,Tryz.ntmps121
  go_wp2_with fail
  rw[HW1.out]
  refine HO1.out.mono ?_
  rintro e w1 ⟨rfl,hk1⟩
  have HK2:Hid (Kp W1 w1 Nul):=hk1
  have x14:w1.cell? ⟨w.heap.size,14,none⟩=some (.slice a n c):=(HB.out w1 hk1).cell rfl
  clear hk1 HO1 HW1
  by_cases h0:OE=0
  ·subst h0
   have hS:Hid (S=feL ts (hd.k==9)):=by show _=_;rw[hfe.out];rfl
   clear hfe
   go_wp2_with fail
   clear x14
   go_loopw[18] (fun i wr=>∃q:Nat,q<=n/\i=.int .i64 q/\Okto ts (hd.k==9) q/\Kp w1 wr Nul) (fun i _=>n-(intOf i).toNat)
   case atStart=>exact⟨0,Nat.zero_le _,rfl,fun i h hi=>by omega,Kp.refl _ _⟩
   case round=>
    obtain⟨q,hq,rfl,hz,hkq⟩:=hrel
    have HZ:Hid (Okto ts (hd.k==9) q):=hz
    have KQ:Hid (Kp w1 wr Nul):=hkq
    have hkw:Kp w wr Nul:=(HK1.out.trans HK2.out).trans hkq
    have HKW:Hid (Kp w wr Nul):=hkw
    have x0:wr.cell? ⟨w.heap.size,0,none⟩=some (.int .i64 hd.k):=(HB.out wr (HK2.out.trans hkq)).cell rfl
    have HBx:Hid (∀o,(wr.alloc o).cell? ⟨w.heap.size,0,none⟩=some (.int .i64 hd.k)):=fun o=>((HB.out wr (HK2.out.trans hkq)).alloc o).cell rfl
    clear hz hkq
    by_cases hlt:q<n
    ·have hqt:q<ts.length:=by rw[HL.out];exact hlt
     obtain⟨b,o,rfl,hFb,hns⟩:∃b o,a=some ⟨b,o,none⟩/\F b/\NdsIn w F b o ts:=by
      rcases H4.out with h|h
      ·rw[h.1] at hqt;simp at hqt
      ·exact h
     obtain⟨s1,hr,hni⟩:=hns.get q hqt
     have HR:Hid (wr.rangeAt b (o+q*15) ((ts[q]).hd.cells s1)):=rangeAt_block hr (hkw.block b (rangeAt_lt hr) (fun x=>x))
     have hni':=hni.kp hkw (fun _ _ x=>x)
     have O1:Hid (s1.oneCell'=true):=hni.one
     have hs1:=size_get ts q hqt
     have HC:Hid (∀wq,Kp wr wq Nul->Calls Tryz.prog 121 #[(ts[q]).hd.val s1,.bool (hd.k==9)] wq fun e w'=>e=.returned (.int .i64 ((ts[q]).fe (hd.k==9)))/\Kp wq w' Nul):=fun wq hq=>IH.out ts[q] s1 F _ wq (by have:=HN.out;have:=hsz.out;omega) (HOK.out.get q hqt) (hni'.kp hq (fun _ _ x=>x)) ((HU.out.kp hkw).kp hq)
     have hstep:Hid ((ts[q]).fe (hd.k==9)=0->Okto ts (hd.k==9) (q+1)):=fun h0 i h hi=>by
      rcases Nat.lt_or_ge i q with g|g
      ·exact HZ.out i h g
      ·have:i=q:=by omega
       subst this;exact h0
     have hend:Hid ((ts[q]).fe (hd.k==9)≠0->S=(ts[q]).fe (hd.k==9)):=fun hne=>by rw[hS.out];exact feL_at hqt HZ.out hne
     clear hs1 hni hni' hr hns hkw
     generalize (ts[q]).fe (hd.k==9)=z at *
     generalize (ts[q]).hd=hh at *
     have hkb:(q:Int)+1<=9223372036854775807:=by have:=HLEN.out;omega
     have hq0:(0:Int)<=(q:Int):=by omega
     have hqn:(q:Int)<(n:Int):=by omega
     have x0':=HBx.out
     go_wp2_with (first|(refine wpList_load_mid rfl 48 (.tmp 20) rfl b (o+q*15) rfl (hh.cells s1) _ HR.out Tryz.underlying48 rfl infoNode ?_)|(refine wpList_store_new rfl 48 (.tmp 7) (.tmp 21) rfl _ _ _ _ _ (by first|rfl|simp) rfl rfl rfl infoNode (hh.one O1.out) ?_)|(refine load_node_law rfl (.tmp 7) rfl wr.heap.size rfl (hh.cells s1).toArray (heap_alloc_new _ _) rfl ?_))
     refine(HC.out _ ((Kp.refl _ _).alloc _)).mono ?_
     rintro e w2 ⟨rfl,hk2⟩
     have HK3:Hid (Kp w1 w2 Nul):=(KQ.out.alloc _).trans hk2
     have HK4:Hid (Kp w w2 Nul):=(HKW.out.alloc _).trans hk2
     clear hk2 HC HR x0 x0'
     by_cases hz0:z=0
     ·subst hz0
      go_wp2_with fail
      go_roundw
      case rel=>exact⟨q+1,by omega,by go_num,hstep.out trivial,HK3.out⟩
      case measure=>simp only[intOf];omega
     ·have HS0:Hid (S=z):=hend.out hz0
      have hzb:(z==0)=false:=by simpa using hz0
      clear hend hstep HZ HKW KQ HK3 IH H4 HOK hq0 hqn hkb hlt hqt hFb hq hz0 HBx O1
      go_wp21
      go_ret
      exact⟨rInt HS0.out.symm,HK4.out⟩
    ·have hqe:q=n:=by omega
     subst hqe
     have hqn:¬((q:Int)<(q:Int)):=by omega
     have HS0:Hid (S=0):=by
      show _=_
      rw[hS.out]
      exact feL_all fun i h hi=>HZ.out i h (by rw[<- HL.out];exact h)
     as_aux_lemma=>
     go_wp2_with fail
     go_ret
     exact⟨rInt HS0.out.symm,HKW.out⟩
  ·have HS0:Hid (S=OE):=by show _=_;rw[hfe.out,if_pos h0]
   have hzb:(OE==0)=false:=by simpa using h0
   go_wp2_with fail
   go_ret
   exact⟨rInt HS0.out.symm,HK1.out.trans HK2.out⟩
theorem check_at (t:Nd) (sl:Value) (F:Nat->Prop) (w:World) (hok:t.ok) (hin:NdIn w F sl t) (hU:VS w) :
  Calls Tryz.prog 86 #[t.hd.val sl] w fun e w'=>e=.returned (.int .i64 (chk t))/\Kp w w' Nul:=by
 obtain⟨W1,hW1⟩:∃W1,w.alloc (.cells (t.hd.cells sl).toArray 48)=W1:=⟨_,rfl⟩
 have k1:Kp w W1 Nul:=by rw[<- hW1];exact(Kp.refl w Nul).alloc _
 have b1:Blk W1 w.heap.size (t.hd.cells sl) 48:=by rw[<- hW1];exact Blk.new w _ _
 have HW1:Hid (w.alloc (.cells #[.int .i64 t.hd.k,.int .i64 t.hd.o,.float .f64 t.hd.x,.string t.hd.s,.bool t.hd.b,.int .i64 t.hd.f,.int .i64 t.hd.c1,.int .i64 t.hd.r1,.bool t.hd.p1,.bool t.hd.q1,.int .i64 t.hd.c2,.int .i64 t.hd.r2,.bool t.hd.p2,.bool t.hd.q2,sl] 48)=W1):=hW1
 have HT:Hid (∀wq,Kp w wq Nul->Calls Tryz.prog 119 #[t.hd.val sl] wq fun e w'=>e=.returned (.bool (decide (256<t.size)))/\Kp wq w' Nul):=fun wq hq=>tooMany_at t sl F wq (hin.kp hq (fun _ _ x=>x))
 have HD:Hid (t.size<=256->∀wq,Kp w wq Nul->Calls Tryz.prog 120 #[t.hd.val sl] wq fun e w'=>e=.returned (.int .i64 (t.dep:Nat))/\Gr wq w'):=fun h wq hq=>depth_at t sl F wq (by omega) (hin.kp hq (fun _ _ x=>x))
 have HF:Hid (∀wq,Kp w wq Nul->Calls Tryz.prog 121 #[t.hd.val sl,.bool false] wq fun e w'=>e=.returned (.int .i64 (t.fe false))/\Kp wq w' Nul):=fun wq hq=>firstError_any t.size t sl F false wq (Nat.le_refl _) hok (hin.kp hq (fun _ _ x=>x)) (hU.kp hq)
 have hE:Hid (chk t=if 256<t.size then 34 else if 32<t.dep then 33 else t.fe false):=rfl
 have HB:Hid (∀wq,Kp W1 wq Nul->wq.heap[w.heap.size]? = some (.cells (t.hd.cells sl).toArray 48 (0,0))):=fun wq hq=>b1.kp hq (fun x=>x)
 have HK1:Hid (Kp w W1 Nul):=k1
 clear hW1 k1 b1 hU hok hin
 generalize chk t=E at *
 generalize t.size=sz at *
 generalize t.dep=dp at *
 generalize t.fe false=fe at *
 generalize t.hd=h at *
 go_enter Tryz.func86,Tryz.ntmps86
 go_wp2_with fail
 rw[HW1.out]
 refine(HT.out _ HK1.out).mono ?_
 rintro e w1 ⟨rfl,hk1⟩
 have HK2:Hid (Kp W1 w1 Nul):=hk1
 have HB1:Hid (w1.heap[w.heap.size]? = some (.cells (h.cells sl).toArray 48 (0,0))):=HB.out w1 hk1
 clear hk1 HT HW1
 by_cases h1:256<sz
 ·rw[decide_eq_true h1]
  have HE:Hid (E=34):=by show _=_;rw[hE.out,if_pos h1]
  go_wp2_with fail
  go_ret
  exact⟨rInt HE.out.symm,HK1.out.trans HK2.out⟩
 ·rw[decide_eq_false h1]
  have HD1:Hid (∀wq,Kp w wq Nul->Calls Tryz.prog 120 #[h.val sl] wq fun e w'=>e=.returned (.int .i64 (dp:Nat))/\Gr wq w'):=HD.out (by omega)
  have hE2:Hid (E=if 32<dp then 33 else fe):=by show _=_;rw[hE.out,if_neg h1]
  clear hE HD h1
  go_wp2_with (first|(refine load_node_law rfl (.tmp 1) rfl w.heap.size rfl (h.cells sl).toArray HB1.out rfl ?_)|fail)
  refine(HD1.out _ (HK1.out.trans HK2.out)).mono ?_
  rintro e w2 ⟨rfl,hg2⟩
  have HK3:Hid (Kp W1 w2 Nul):=HK2.out.trans (Kp.of_gr hg2)
  have HB2:Hid (w2.heap[w.heap.size]? = some (.cells (h.cells sl).toArray 48 (0,0))):=HB.out w2 HK3.out
  clear hg2 HD1 HK2 HB1
  by_cases h2:32<dp
  ·have j:(32:Int)<(dp:Int):=by omega
   have HE:Hid (E=33):=by show _=_;rw[hE2.out,if_pos h2]
   go_wp2_with fail
   go_ret
   exact⟨rInt HE.out.symm,HK1.out.trans HK3.out⟩
  ·have j:¬(32:Int)<(dp:Int):=by omega
   have HE:Hid (E=fe):=by show _=_;rw[hE2.out,if_neg h2]
   go_wp2_with (first|(refine load_node_law rfl (.tmp 1) rfl w.heap.size rfl (h.cells sl).toArray HB2.out rfl ?_)|fail)
   refine(HF.out _ (HK1.out.trans HK3.out)).mono ?_
   rintro e w3 ⟨rfl,hk3⟩
   have HK4:Hid (Kp w w3 Nul):=(HK1.out.trans HK3.out).trans hk3
   clear hk3 HF
   go_wp2_with fail
   go_ret
   exact⟨rInt HE.out.symm,HK4.out⟩
end Go.Proofs.YtecjfnkakodebaaGreatDoor
namespace Go.Proofs.YtecjfnkakodebaaGreatDoor
open Go.RowKit
theorem vValid_at (v:Vl) (w:World) (U:VS w) :
  Calls Tryz.prog 85 #[v.val] w fun e w'=>e=.returned (.bool (validV v (Lib.validD v.s.data.toList)))/\Kp w w' Nul:=by
 have H1:Hid (∀w,Calls Tryz.prog 116 #[v.val] w fun e w'=>e=.returned (.bool (bareV v))/\Gr w w'):=bare_at v
 have H2:Hid (∀w,Calls Tryz.prog 118 #[.int .i64 v.f] w fun e w'=>e=.returned (.bool (isF v.f))/\w'=w):=isFault_at v.f
 have HU:Hid (v.s.size<=1024->∀wq,Kp w wq Nul->Calls Tryz.prog 117 #[.string v.s] wq fun e w'=>e=.returned (.bool (Lib.validD v.s.data.toList))/\Kp wq w' Nul):=fun hs wq hq=>U v.s wq hs hq
 have hV:Hid (validV v (Lib.validD v.s.data.toList)=(bareV v&&(v.k==0 || v.k==1 || v.k==3 || (v.k==2&&decide (v.s.size<=1024)&&Lib.validD v.s.data.toList)||(v.k==4&&isF v.f)))):=rfl
 generalize validV v (Lib.validD v.s.data.toList)=V at *
 generalize bareV v=B at *
 generalize isF v.f=I at *
 generalize Lib.validD v.s.data.toList=u at *
 obtain⟨k,x,s,b,f⟩:=v
 simp only at *
 clear U
 go_enter Tryz.func85,Tryz.ntmps85
 go_wp2_with fail
 refine(H1.out _).mono ?_
 rintro e w1 ⟨rfl,hg1⟩
 have hcell:=hg1.ext.cell
 have G1:Hid (Kp w w1 Nul):=((Kp.refl _ _).alloc _).trans (Kp.of_gr hg1)
 clear hg1 H1
 cases B
 ·go_wp2_with fail
  go_ret
  exact⟨rBool (by rw[hV.out];rfl),G1.out⟩
 ·by_cases k2:k=2
  ·subst k2
   by_cases hl:s.size<=1024
   ·have U2:Hid (∀wq,Kp w wq Nul->Calls Tryz.prog 117 #[.string s] wq fun e w'=>e=.returned (.bool u)/\Kp wq w' Nul):=HU.out hl
    have HL:Hid (decide (s.size<=1024)=true):=by show _=_;simp[hl]
    have hl':(s.size:Int)<=1024:=by omega
    clear HU
    go_wp2_with (go_at_call 117;refine(U2.out _ G1.out).mono ?_;rintro e w2 ⟨rfl,hg2⟩;have G2:Hid (Kp w w2 Nul):=G1.out.trans hg2;clear hg2 hcell)
    all_goals
     go_ret
     refine⟨rBool ?_,G2.out⟩
     rw[hV.out,HL.out]
     cases u <;> simp
   ·have HL:Hid (decide (s.size<=1024)=false):=by show _=_;simp[hl]
    have hl':¬(s.size:Int)<=1024:=by omega
    have hl2:decide ((s.size:Int)<=1024)=false:=by simp;omega
    clear HU
    go_wp2_with fail
    all_goals
     go_ret
     refine⟨rBool ?_,G1.out⟩
     rw[hV.out,HL.out]
     simp
  ·clear HU
   have HK2:Hid ((k==2)=false):=by show _=_;simp[k2]
   go_wp2_with (go_at_call 118;refine(H2.out _).mono ?_;rintro e w2 ⟨rfl,rfl⟩)
   all_goals
    go_ret
    refine⟨rBool ?_,G1.out⟩
    rw[hV.out]
    clear hV hcell H2
    simp_all
def gv (c:Ct):Bool:=validC c (Lib.validD c.v.s.data.toList) (chk c.t)
theorem gv_at (c:Ct) (sl:Value) (F:Nat->Prop) (w:World) (hok:c.t.ok) (hin:NdIn w F sl c.t) (U:VS w) :
  Calls Tryz.prog 43 #[c.val sl] w fun e w'=>e=.returned (.bool (gv c))/\Kp w w' Nul:=by
 have H1:Hid (∀w,Calls Tryz.prog 83 #[c.v.val] w fun e w'=>e=.returned (.bool (zeroV c.v))/\Gr w w'):=isZeroValue_at c.v
 have H2:Hid (∀wq,Kp w wq Nul->Calls Tryz.prog 84 #[c.t.hd.val sl] wq fun e w'=>e=.returned (.bool (zeroN c.t))/\Gr wq w'):=fun wq hq=>isZeroNode_at c.t sl F wq hok (hin.kp hq (fun _ _ x=>x))
 have H3:Hid (∀wq,Kp w wq Nul->Calls Tryz.prog 85 #[c.v.val] wq fun e w'=>e=.returned (.bool (validV c.v (Lib.validD c.v.s.data.toList)))/\Kp wq w' Nul):=fun wq hq=>vValid_at c.v wq (U.kp hq)
 have CK:Hid (∀wq,Kp w wq Nul->Calls Tryz.prog 86 #[c.t.hd.val sl] wq fun e w'=>e=.returned (.int .i64 (chk c.t))/\Kp wq w' Nul):=fun wq hq=>check_at c.t sl F wq hok (hin.kp hq (fun _ _ x=>x)) (U.kp hq)
 have hV:Hid (gv c=((c.k==0&&(zeroV c.v&&zeroN c.t))||(c.k==1&&(c.v.k != 0&&validV c.v (Lib.validD c.v.s.data.toList)&&zeroN c.t))||(c.k==2&&(zeroV c.v&&chk c.t==0)))):=rfl
 generalize gv c=V at *
 generalize zeroV c.v=Z at *
 generalize zeroN c.t=ZN at *
 generalize validV c.v (Lib.validD c.v.s.data.toList)=VV at *
 generalize chk c.t=ec at *
 obtain⟨k,⟨vk,vx,vs,vb,vf⟩,t⟩:=c
 simp only at *
 clear U hin hok
 have GA:Hid (∀o,Kp w (w.alloc o) Nul):=fun o=>(Kp.refl w Nul).alloc _
 by_cases k0:k=0
 ·subst k0
  clear H3 CK
  go_enter Tryz.func43,Tryz.ntmps43
  go_wp2_with fail
  refine(H1.out _).mono ?_
  rintro e w1 ⟨rfl,hg1⟩
  have hcell:=hg1.ext.cell
  have G1:Hid (Kp w w1 Nul):=(GA.out _).trans (Kp.of_gr hg1)
  clear hg1 H1
  cases Z
  ·go_wp2_with fail
   go_ret
   exact⟨rBool (by rw[hV.out];rfl),G1.out⟩
  ·go_wp2_with fail
   refine(H2.out _ G1.out).mono ?_
   rintro e w2 ⟨rfl,hg2⟩
   have G2:Hid (Kp w w2 Nul):=G1.out.trans (Kp.of_gr hg2)
   clear hg2 H2 hcell
   go_wp2_with fail
   go_ret
   exact⟨rBool (by rw[hV.out];cases ZN <;> rfl),G2.out⟩
 ·by_cases k1:k=1
  ·have H4:Hid (∀wq,Kp w wq Nul->Calls Tryz.prog 85 #[.agg #[.int .i64 vk,.float .f64 vx,.string vs,.bool vb,.int .i64 vf]] wq fun e w'=>e=.returned (.bool VV)/\Kp wq w' Nul):=H3.out
   subst k1
   clear H3 CK H1
   by_cases v0:vk=0
   ·subst v0
    go_enter Tryz.func43,Tryz.ntmps43
    go_wp2_with fail
    go_ret
    exact⟨rBool (by rw[hV.out];rfl),GA.out _⟩
   ·have hv0:(vk != 0)=true:=by simpa using v0
    go_enter Tryz.func43,Tryz.ntmps43
    go_wp2_with fail
    refine(H4.out _ (GA.out _)).mono ?_
    rintro e w1 ⟨rfl,hg1⟩
    have G1:Hid (Kp w w1 Nul):=(GA.out _).trans hg1
    have hcell:∀a:Addr,a.block<w.heap.size+1->w1.cell? a=(w.alloc (.cells #[.int .i64 1,.int .i64 vk,.float .f64 vx,.string vs,.bool vb,.int .i64 vf,.int .i64 t.hd.k,.int .i64 t.hd.o,.float .f64 t.hd.x,.string t.hd.s,.bool t.hd.b,.int .i64 t.hd.f,.int .i64 t.hd.c1,.int .i64 t.hd.r1,.bool t.hd.p1,.bool t.hd.q1,.int .i64 t.hd.c2,.int .i64 t.hd.r2,.bool t.hd.p2,.bool t.hd.q2,sl] 50)).cell? a:=fun a ha=>by
     have:=hg1.block a.block (by rw[World.size_alloc];exact ha) (fun x=>x)
     simp only[World.cell?,this]
    clear hg1 H4
    cases VV
    ·go_wp2_with fail
     go_ret
     exact⟨rBool (by rw[hV.out,hv0];rfl),G1.out⟩
    ·go_wp2_with fail
     refine(H2.out _ G1.out).mono ?_
     rintro e w2 ⟨rfl,hg2⟩
     have G2:Hid (Kp w w2 Nul):=G1.out.trans (Kp.of_gr hg2)
     clear hg2 H2 hcell
     go_wp2_with fail
     go_ret
     exact⟨rBool (by rw[hV.out,hv0];cases ZN <;> rfl),G2.out⟩
  ·by_cases k2:k=2
   ·subst k2
    clear H3 H2
    go_enter Tryz.func43,Tryz.ntmps43
    go_wp2_with fail
    refine(H1.out _).mono ?_
    rintro e w1 ⟨rfl,hg1⟩
    have hcell:=hg1.ext.cell
    have G1:Hid (Kp w w1 Nul):=(GA.out _).trans (Kp.of_gr hg1)
    clear hg1 H1
    cases Z
    ·go_wp2_with fail
     go_ret
     exact⟨rBool (by rw[hV.out];rfl),G1.out⟩
    ·go_wp2_with fail
     refine(CK.out _ G1.out).mono ?_
     rintro e w2 ⟨rfl,hg2⟩
     have G2:Hid (Kp w w2 Nul):=G1.out.trans hg2
     clear hg2 CK hcell
     go_wp2_with fail
     all_goals
      go_ret
      refine⟨rBool ?_,G2.out⟩
      rw[hV.out]
      simp_all
   ·have h0:(k==0)=false:=by simpa using k0
    have h1:(k==1)=false:=by simpa using k1
    have h2:(k==2)=false:=by simpa using k2
    clear H1 H2 H3 CK
    go_enter Tryz.func43,Tryz.ntmps43
    go_wp2_with fail
    go_ret
    exact⟨rBool (by rw[hV.out,h0,h1,h2];rfl),GA.out _⟩
end Go.Proofs.YtecjfnkakodebaaGreatDoor
