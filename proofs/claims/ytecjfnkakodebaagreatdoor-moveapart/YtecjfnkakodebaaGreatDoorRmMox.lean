/-MovePlays: the walk. -/
import Derived.Test.YtecjfnkakodebaaGreatDoorRmMop
open Go.Proofs.Tryz
open Go.Value renaming int->O,bool->E,slice->U,agg->T,pointer->an
open Go.IntKind renaming i64->I
open Option renaming some->H,none->G
open Bool renaming true->J
open Go.Ending renaming returned->Q
set_option maxRecDepth 20000
set_option maxHeartbeats 16000000
namespace Go.Proofs.YtecjfnkakodebaaGreatDoor
open Go.RowKit Go.Maps Go.Sort Go.Lib Go.Shelf
structure St9 where
 x0:Int
 x1:Int
 x2:Int
 A:Ar4
 f:Int×Int
def St9.cells (z:St9):List Value:=[O I z.x0,O I z.x1,O I z.x2,O I z.A.1.1,O I z.A.1.2,O I z.A.2.1,O I z.A.2.2,O I z.f.1,O I z.f.2]
structure j44 (w:World) (v:Value) (zs:List St9):Prop where
 sl:∃a c,v=U a zs.length c/\(0<zs.length->∃b o,a=H ⟨b,o,G⟩/\∀(i:Nat) z,zs[i]? = H z->w.rangeAt b (o+i*9) z.cells)
 len:zs.length<=maxLen
 rng:∀z∈zs,I64 z.x0
theorem j5g:(prog.info? 36).map (·.size)=H 9:=by kernel_rfl
theorem jBY (g:Nat)(w:World):(binOp .neq 24 (an (H ⟨g,0,G⟩)) (an G)).run prog w=.ok (E J) w:=by
 simp[go_sem]
theorem GS.of {w:World}{B g r:Nat}{L Kd:List Cc}{v:Value}{ys:List (Cc×Value)}(h:Two w B g r L Kd v ys):GS w B g r L:=⟨h.gi,h.ok,⟨⟨v,ys,h.dg,by rw[h.ks];exact h.al⟩,h.ok,h.gi.once'⟩⟩
theorem jCb (vl sv:Value)(xl:List (Cc×Value))(zs:List St9)(w:World)(hl:j0O w vl xl)(hsm:∀y∈xl,Sm24 y.1.2)(hs:j44 w sv zs)(hv:VS w):
 Calls prog 3 #[vl,sv] w fun e w'=>e=Q (E J)/\Kp w w' Nul:=by
 have HB:=h_ (j4O vl xl w hl hsm hv);have HKn:=h_ fun wq (k:Kp w wq Nul)=>j5m wq (hv.kp k)
 have HV:=h_ hv;obtain⟨la,lc,rfl,_⟩:=hl.sl;obtain⟨sa,sc,rfl,hsl⟩:=hs.sl;obtain⟨nz,hnz⟩:=e_ zs.length;have HNz:Hid (zs.length=nz/\nz<=9223372036854775807):=⟨hnz,by have:=hs.len;unfold maxLen at this;omega⟩;have HSl:=h_ hsl;have HRg:=h_ hs.rng;rw[hnz];clear hl hsm hs hv hsl hnz;go_enter func3,ntmps3;go_wp2_with fail;refine HB.o.mono ?_;intro e w1 hb;cases hb with
 | mk two low kp=>
 rename_i g r L Kd v ys
 have HG1:=h_ (GS.of two);have K1:=h_ kp;clear two low kp HB;have hng:=fun wq=>j60 g wq
 go_wp2_with fail;refine(HKn.o _ K1.o).mono ?_;rintro e w2 ⟨rfl,hk2⟩;have K2:=h_ (K1.o.trans hk2);have HG2:=h_ (HG1.o.nul hk2);clear hk2 HG1 K1 HKn hng;go_wp2_with fail;go_loopw[5,6,7] (fun s5 s6 s7 wr=>∃(q g r:Nat) (L:List Cc),q<=nz/\s5=an (H ⟨g,0,G⟩)/\s6=an (H ⟨r,0,G⟩)/\s7=O I q/\GS wr w.heap.size g r L/\Kp w wr Nul) (fun _ _ s7 _=>nz-(RowKit.intOf s7).toNat)
 case atStart=>exact⟨0,g,r,L,Nat.zero_le _,rfl,rfl,rfl,HG2.o,K2.o⟩
 case round=>
  clear HG2 K2;obtain⟨q,g,r,L,hq,rfl,rfl,rfl,hgs,hkp⟩:=hrel;have HG:=h_ hgs;have HK:=h_ hkp;clear hgs hkp;by_cases hlt:q<nz
  ·have hqt:q<zs.length:=(by rw[HNz.o.1];exact hlt);obtain⟨b,o,rfl,hra⟩:=HSl.o (by have:=HNz.o.1;omega);obtain⟨⟨x0,x1,x2,A,f⟩,hz⟩:∃z,zs[q]=z:=⟨_,rfl⟩;have hget:zs[q]? = H ⟨x0,x1,x2,A,f⟩:=(by rw[List.getElem?_eq_getElem hqt,hz]);have h0:=HRg.o _ (List.mem_of_getElem? hget);have hr:=hra q _ hget;obtain⟨SC,hSC⟩:=e_ (St9.cells ⟨x0,x1,x2,A,f⟩);have HR:Hid (∀wq,Kp w wq Nul->wq.rangeAt b (o+q*9) SC):=(fun wq k=>by rw[<- hSC];exact U6 hr k (fun x=>x));have HI:Hid ((prog.info? 36).map (·.size)=H SC.length):=(by show _=_;rw[j5g,<- hSC];rfl);have HDo:Hid (Calls prog 9 #[an (H ⟨g,0,G⟩),an (H ⟨r,0,G⟩),T SC.toArray] wr fun e w'=>∃v,e=Q v/\RD (fun a b w3=>NewG wr w3 a b) w' v):=by
    rw[<- hSC];exact j4s w.heap.size g r L x0 x1 x2 A f wr h0 HG.o (HV.o.kp HK.o)
   have HDn:Hid (∀wq,Calls prog 9 #[an G,an G,T SC.toArray] wq fun e w'=>∃v,e=Q v/\RD (fun a b w3=>NoG wq w3 a b) w' v):=fun wq=>by
    rw[<- hSC];exact j9d x0 x1 x2 A f wq h0
   have hq0:(0:Int)<=(q:Int):=(by omega);have hqn:(q:Int)<(nz:Int):=(by omega);have hkb:(q:Int)+1<=9223372036854775807:=(by have:=HNz.o.2;omega);clear hqt hz hget h0 hr hra hSC;go_wp2_with (first
    | (refine wpList_load_mid rfl _ _ rfl _ _ rfl _ _ (HR.o wr HK.o) underlying36 rfl HI.o ?_)
    | fail)
   refine HDo.o.mono ?_;rintro e w3 ⟨v,rfl,hd⟩;cases hd with
   | mk hn=>
   rename_i va vb
   have HN:=h_ hn;have K3:Hid (Kp wr w3 Nul):=by
    cases hn with
    | none k=>exact k
    | some _ _ k=>exact k
   have HG3:=h_ (HG.o.nul K3.o);clear hn HDo;go_wp2_with fail;refine(j0R HG3.o).mono ?_;rintro e w4 ⟨rfl,hk4⟩;have K4:=h_ (K3.o.trans hk4);have HN4:=h_ (HN.o.nul hk4);clear hk4 HG3 HN K3;go_wp2_with (first
    | (refine wpList_load_mid rfl _ _ rfl _ _ rfl _ _ (HR.o w4 (HK.o.trans K4.o)) underlying36 rfl HI.o ?_)
    | fail)
   refine(HDn.o w4).mono ?_;rintro e w5 ⟨v,rfl,hd⟩;cases hd with
   | mk hn=>
   rename_i na nb
   obtain⟨rfl,rfl,hk5⟩:=hn;have HN5:=h_ (HN4.o.nul hk5);have K5:=h_ (K4.o.trans hk5);clear hk5 HN4 K4 HDn HR HI;have hn5:=HN5.o;cases hn5 with
   | none k=>
    go_wp2_with fail;go_roundw
    case rel=>exact⟨q+1,g,r,L,by omega,rfl,rfl,by go_num,HG.o.nul K5.o,HK.o.trans K5.o⟩
    case measure=>simp only[RowKit.intOf];omega
   | some gs hr k=>
    rename_i g2 r2 M
    have HGn:=h_ (gs.down HK.o.size);have hng:=(fun wq=>jBY g2 wq);clear gs hr k;go_wp2_with fail;go_roundw
    case rel=>exact⟨q+1,g2,r2,M,by omega,rfl,rfl,by go_num,HGn.o,HK.o.trans K5.o⟩
    case measure=>simp only[RowKit.intOf];omega
  ·have hqe:q=nz:=(by omega);subst hqe;have hqn:¬((q:Int)<(q:Int)):=(by omega);go_wp2_with fail;refine(j0R HG.o).mono ?_;rintro e w4 ⟨rfl,hk4⟩;have K4:=h_ (HK.o.trans hk4);clear hk4;go_wp2_with fail;go_ret;first|exact⟨rfl,K4.o⟩|exact K4.o
end Go.Proofs.YtecjfnkakodebaaGreatDoor
