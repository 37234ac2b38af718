/-Packed: the writer's node. -/
import Derived.Test.YtnceajanlnnfoaaGreatDoorQrPkb
import Derived.Laws.BitsLemmas
set_option maxRecDepth 100000
set_option maxHeartbeats 8000000
namespace Go.Proofs.YtnceajanlnnfoaaGreatDoor
open Go.RowKit Go.Shelf
theorem Y9 (c r:Nat)(p q:Bool):(refB c r p q).length=5:=by
 unfold refB;rw[List.length_append,List.length_append,D8,D8]
 rfl
theorem j0r (s:ByteArray):(txtB s).length=2+s.size:=by
 unfold txtB;rw[List.length_append,D8,Array.length_toList]
 rfl
theorem j16 {h:Hd}{n:Nat}(hc:Kn h n)(i:Nat):(fB h i).length<=65538:=by
 have hs:=hc.s;unfold fB;repeat' split
 ·rw[D8];decide
 ·rw[j0r];omega
 ·rw[List.length_singleton];decide
 ·rw[List.length_singleton];decide
 ·rw[Y9];decide
 ·rw[Y9];decide
 ·rw[List.length_singleton];decide
 ·decide
theorem j2F {h:Hd}{n:Nat}(hc:Kn h n):(fldB h n).length<=65544:=by
 rw[j4Q hc.k,List.length_append,List.length_append];have h2:(fB h (sh1 h.k.toNat)).length<=5:=by
  unfold sh1;split
  ·unfold fB;simp only[Nat.reduceEqDiff,if_false,if_true];rw[Y9];decide
  ·exact Nat.zero_le _
 have h1:=j16 hc (sh0 h.k.toNat);have h3:(if shC h.k.toNat=true then [UInt8.ofNat n] else []).length<=1:=by split <;> simp
 omega
mutual
theorem j2b:∀t:Nd,KnN t->(ndB t).length<=t.size*70000
 | .mk h ts,hc=>by
  rw[KnN] at hc;rw[ndB,List.length_cons,List.length_append,Nd.size,Nat.add_mul];have h1:=j2F hc.1;have h2:=j1H ts hc.2;omega
theorem j1H:∀ts:List Nd,KnL ts->(ndsB ts).length<=j5 ts*70000
 | [],_=>by rw[ndsB];exact Nat.zero_le _
 | t::ts,hc=>by
  rw[KnL] at hc;rw[ndsB,List.length_append,j5,Nat.add_mul];have h1:=j2b t hc.1;have h2:=j1H ts hc.2;omega
end
theorem j4t:∀a b:List Nd,ndsB (a++b)=ndsB a++ndsB b
 | [],b=>by rw[List.nil_append,ndsB,List.nil_append]
 | t::a,b=>by rw[List.cons_append,ndsB,ndsB,j4t a b,List.append_assoc]
theorem j4u (ts:List Nd)(k:Nat)(h:k<ts.length):ndsB (ts.take (k+1))=ndsB (ts.take k)++ndB ts[k]:=by
 rw[List.take_add_one,List.getElem?_eq_getElem h,j4t]
 congr 1
 show ndsB [ts[k]]=_;rw[ndsB,ndsB,List.append_nil]
theorem KnL.get:∀ {ts:List Nd},KnL ts->∀i,(h:i<ts.length)->KnN ts[i]
 | [],_,i,h=>absurd h (by simp)
 | t::ts,hk,i,h=>by
  rw[KnL] at hk;cases i with
  | zero=>exact hk.1
  | succ i=>exact KnL.get hk.2 i (by simpa using h)
theorem KnL.take:∀ {ts:List Nd},KnL ts->∀k,KnL (ts.take k)
 | [],_,k=>by rw[List.take_nil,KnL];trivial
 | t::ts,hk,0=>by rw[List.take_zero,KnL];trivial
 | t::ts,hk,k+1=>by rw[KnL] at hk;rw[List.take_succ_cons,KnL];exact⟨hk.1,KnL.take hk.2 k⟩
theorem j1c (x y:Value)(i:Int)(w:World)(h:i=0∨i=1):(Instr.index 201 (.agg #[x,y]) (.int .i64 i)).run Tryz.prog w=.ok (if i=0 then x else y) w:=by
 rcases h with rfl|rfl
 ·simp[Instr.index,run_underlying Tryz.underlying201,go_sem,asIntOf]
 ·simp[Instr.index,run_underlying Tryz.underlying201,go_sem,asIntOf]
def fsB (h:Hd) (i:Nat):List UInt8:=if i=0 then [] else if i=1 then fB h (sh0 h.k.toNat) else fB h (sh0 h.k.toNat)++fB h (sh1 h.k.toNat)
theorem j68 (k:Nat):sh0 k<8:=by
 unfold sh0;rcases Nat.lt_or_ge k 10 with h|h
 ·revert k;decide
 ·rw[List.getD_eq_getElem?_getD,List.getElem?_eq_none (by simpa using h)];decide
theorem j69 (k:Nat):sh1 k<8:=by unfold sh1;split <;> decide
theorem NdIn.wr {w w':World}{F:Nat->Prop}{b:Nat}{g g':Option Nat}{sl:Value}{t:Nd}(h:NdIn w F sl t)(k:Wr b w w' g g')(a:Apt F b g w):NdIn w' F sl t:=h.kp k.kp (Wr.not a)
theorem jFA (b:Nat)(N:Nat):∀(t:Nd) (sl:Value) (F:Nat->Prop) (g:Option Nat) (l:List UInt8) (w:World),t.size<=N->KnN t->NdIn w F sl t->Apt F b g w->Apt (fun i=>i=1) b g w->Sh w->Bw w b g l->l.length+t.size*140000<=140737488355328 ->
 Calls Tryz.prog 71 #[.pointer (some ⟨b,0,none⟩),t.hd.val sl] w fun e w'=>WrR b (l++ndB t) w g e w':=by
 induction N with
 | zero=>intro t sl F g l w h;have:=J3 t;omega
 | succ N ih=>
  intro t sl F g l w hN hcn hin hap hag hsh hb hl;obtain⟨hd,ts⟩:=t;rw[NdIn] at hin;obtain⟨a,c,rfl,h2,h3,h4⟩:=hin;rw[KnN] at hcn;obtain⟨hcn,hcl⟩:=hcn;obtain⟨k0,k1⟩:=hcn.k;rw[Nd.size] at hN hl;have IH:Hid (∀(t:Nd) (sl:Value) (F:Nat->Prop) (g:Option Nat) (l:List UInt8) (w:World),t.size<=N->KnN t->NdIn w F sl t->Apt F b g w->Apt (fun i=>i=1) b g w->Sh w->Bw w b g l->l.length+t.size*140000<=140737488355328 ->
   Calls Tryz.prog 71 #[.pointer (some ⟨b,0,none⟩),t.hd.val sl] w fun e w'=>WrR b (l++ndB t) w g e w'):=ih
  obtain⟨kn,hkn⟩:∃kn:Nat,hd.k=kn:=⟨hd.k.toNat,by omega⟩;have HKN:Hid (hd.k.toNat=kn):=by show _=_;omega
  have HK10:Hid (kn<10):=by show _<_;omega
  have HCN:Hid (Kn hd ts.length):=hcn;have HCL:Hid (KnL ts):=hcl;obtain⟨W,hW⟩:∃W,w.alloc (.cells (hd.cells (.slice a ts.length c)).toArray 64)=W:=⟨_,rfl⟩;have kp0:Kp w W Nul:=by rw[<- hW];exact(Kp.refl w Nul).alloc _
  have hBk:Blk W w.heap.size (hd.cells (.slice a ts.length c)) 64:=by rw[<- hW];exact Blk.new w _ _
  have hA0:Apt (fun i=>i=w.heap.size) b g W:=hb.new hBk.lt;have HBK:Hid (∀g' wr,Wr b W wr g g'->Blk wr w.heap.size (hd.cells (.slice a ts.length c)) 64):=fun g' wr k=>hBk.wr k hA0
  have HSH:Hid (∀g' wr,Wr b W wr g g'->Sh wr):=fun g' wr k=>(hsh.kp kp0 (fun x=>x)).kp k.kp (Wr.not (hag.kp kp0) _ rfl)
  have HND:Hid (∀g' wr,Wr b W wr g g'->NdIn wr F (.slice a ts.length c) (.mk hd ts)):=fun g' wr k=>((show NdIn w F (.slice a ts.length c) (.mk hd ts) by rw[NdIn];exact⟨a,c,rfl,h2,h3,h4⟩).kp kp0 (fun _ _ x=>x)).wr k (hap.kp kp0)
  have HAP:Hid (∀g' wr,Wr b W wr g g'->Apt F b g' wr/\Apt (fun i=>i=1) b g' wr):=fun g' wr k=>⟨(hap.kp kp0).wr k,(hag.kp kp0).wr k⟩
  have HL:Hid (l.length+(1+j5 ts)*140000<=140737488355328):=hl;have HNN:Hid (1+j5 ts<=N+1):=hN;have H0:Hid (Calls Tryz.prog 70 #[.pointer (some ⟨b,0,none⟩),.int .i64 kn] W fun e w'=>WrR b (l++[UInt8.ofNat kn]) W g e w'):=V8 b g l kn W (by omega) (hb.kp kp0) (by omega);have HF:Hid (∀(i:Nat) g' w',i<8->∀m,Bw w' b g' (l++[UInt8.ofNat kn]++m)->m.length<=65538->Calls Tryz.prog 125 #[.pointer (some ⟨b,0,none⟩),hd.val (.slice a ts.length c),.int .i64 i] w' fun e w2=>WrR b (l++[UInt8.ofNat kn]++m++fB hd i) w' g' e w2):=fun i g' w' hi m h' hm=>jEt b g' _ hd ts.length i a ts.length c w' hcn hi h' (by rw[List.length_append,List.length_append,List.length_singleton];omega)
  have HKP:Hid (Kp w W Nul):=kp0;have HW:Hid (w.alloc (.cells (hd.cells (.slice a ts.length c)).toArray 64)=W):=hW;have HML:Hid (ts.length<=maxLen):=Nat.le_trans h2 h3;obtain⟨a0,ha0⟩:∃a0,sh0 kn=a0:=⟨_,rfl⟩;obtain⟨a1,ha1⟩:∃a1,sh1 kn=a1:=⟨_,rfl⟩;have HC0:Hid (∀wr,Sh wr->wr.cell? ⟨1,kn*4,none⟩=some (.int .i64 a0)/\wr.cell? ⟨1,kn*4+1,none⟩=some (.int .i64 a1)/\wr.cell? ⟨1,kn*4+3,none⟩=some (.bool (shC kn))):=fun wr h=>by
   obtain⟨e1,e2,_,e4⟩:=j6A kn HK10.out;rw[ha0] at e1;rw[ha1] at e2;exact⟨h.cell e1,h.cell e2,h.cell e4⟩
  have HA0:Hid (a0<8/\a1<8):=⟨ha0 ▸ j68 kn,ha1 ▸ j69 kn⟩;have HFS:Hid (fsB hd 1=fB hd a0/\fsB hd 2=fB hd a0++fB hd a1/\fldB hd ts.length=fsB hd 2++(if shC kn=true then [UInt8.ofNat ts.length] else [])):=by
   refine⟨?_,?_,?_⟩
   ·unfold fsB;simp only[Nat.one_ne_zero,if_false,if_true];rw[HKN.out,ha0]
   ·unfold fsB;simp only[Nat.reduceEqDiff,if_false];rw[HKN.out,ha0,ha1]
   ·rw[j4Q hcn.k];unfold fsB;simp only[Nat.reduceEqDiff,if_false];rw[HKN.out,<- List.append_assoc]
  have lk:W.cell? ⟨w.heap.size,0,none⟩=some (.int .i64 kn):=by rw[<- hkn];exact hBk.cell rfl
  have HLK:Hid (∀g' wr,Wr b W wr g g'->wr.cell? ⟨w.heap.size,0,none⟩=some (.int .i64 kn)/\wr.cell? ⟨w.heap.size,14,none⟩=some (.slice a ts.length c)):=fun g' wr k=>⟨by rw[<- hkn];exact(HBK.out g' wr k).cell rfl,(HBK.out g' wr k).cell rfl⟩
  clear ih hN hcl hcn hap hag hsh hb hl h2 h3 h4 hA0 hBk kp0 hW k0 k1 ha0 ha1 hkn;simp only[Nd.hd];go_enter Tryz.func71,Tryz.ntmps71;go_wp2_with (first|(rw[HW.out])|fail);refine H0.out.mono ?_;rintro e w1 ⟨rfl,g1,hb1,hw1⟩;have HB1:Hid (Bw w1 b g1 (l++[UInt8.ofNat kn]++fsB hd 0)):=by show Bw _ _ _ _;unfold fsB;rw[if_pos rfl,List.append_nil];exact hb1
  have HW1:Hid (Wr b W w1 g g1):=hw1;obtain⟨lk1,ls1⟩:=HLK.out g1 w1 hw1;obtain⟨lc0,lc1,lc3⟩:=HC0.out w1 (HSH.out g1 w1 hw1);have hk10:=HK10.out;clear hb1 hw1 H0 HW lk;go_wp2_with fail;clear lc0 lc1 lc3 lk1 ls1;go_loopw[17] (fun si wr=>∃i:Nat,i<=2/\si=.int .i64 i/\∃g',Bw wr b g' (l++[UInt8.ofNat kn]++fsB hd i)/\Wr b W wr g g') (fun si _=>(2-RowKit.intOf si).toNat)
  case atStart=>exact⟨0,by decide,by simp,g1,HB1.out,HW1.out⟩
  case round=>
   clear HB1 HW1;obtain⟨i,hi,rfl,g2,hb2,hw2⟩:=hrel;have HB2:Hid (Bw wr b g2 (l++[UInt8.ofNat kn]++fsB hd i)):=hb2;have HW2:Hid (Wr b W wr g g2):=hw2;have HBK2:Hid (Blk wr w.heap.size (hd.cells (.slice a ts.length c)) 64):=HBK.out g2 wr hw2;clear hb2 hw2;have hic:i=0∨i=1∨i=2:=(by omega);rcases hic with rfl|rfl|rfl
   ·clear hi;have hix:=(fun wq=>j1c (.int .i64 a0) (.int .i64 a1) 0 wq (.inl rfl));simp only[if_true] at hix;go_wp2_with (first|(refine L4 rfl (.tmp 3) rfl w.heap.size rfl (hd.cells (.slice a ts.length c)).toArray HBK2.out rfl ?_)|fail);clear hix;refine(HF.out a0 g2 wr HA0.out.1 _ HB2.out (by unfold fsB;exact Nat.zero_le _)).mono ?_;rintro e w3 ⟨rfl,g3,hb3,hw3⟩;have HB3:Hid (Bw w3 b g3 (l++[UInt8.ofNat kn]++fsB hd 1)):=by
     show Bw _ _ _ _;rw[HFS.out.1];have e0:fsB hd 0=[]:=rfl;rw[e0,List.append_nil] at hb3;exact hb3
    have HW3:Hid (Wr b W w3 g g3):=HW2.out.trans hw3;clear hb3 hw3;go_wp2_with fail;go_roundw
    case rel=>exact⟨1,by decide,by go_num,g3,HB3.out,HW3.out⟩
    case measure=>simp only[RowKit.intOf];decide
   ·clear hi;have hix:=(fun wq=>j1c (.int .i64 a0) (.int .i64 a1) 1 wq (.inr rfl));simp only[Int.reduceEq,if_false] at hix;go_wp2_with (first|(refine L4 rfl (.tmp 3) rfl w.heap.size rfl (hd.cells (.slice a ts.length c)).toArray HBK2.out rfl ?_)|fail);clear hix;refine(HF.out a1 g2 wr HA0.out.2 _ HB2.out (by rw[HFS.out.1];exact j16 HCN.out a0)).mono ?_;rintro e w3 ⟨rfl,g3,hb3,hw3⟩;have HB3:Hid (Bw w3 b g3 (l++[UInt8.ofNat kn]++fsB hd 2)):=by
     show Bw _ _ _ _;rw[HFS.out.1,List.append_assoc,<- HFS.out.2.1] at hb3;exact hb3
    have HW3:Hid (Wr b W w3 g g3):=HW2.out.trans hw3;clear hb3 hw3;go_wp2_with fail;go_roundw
    case rel=>exact⟨2,by decide,by go_num,g3,HB3.out,HW3.out⟩
    case measure=>simp only[RowKit.intOf];decide
   ·clear hi HF;rw[show ((2:Nat):Int)=2 from rfl];obtain⟨lk1,ls1⟩:=HLK.out g2 wr HW2.out;obtain⟨_,_,lc3⟩:=HC0.out wr (HSH.out g2 wr HW2.out);have HSM:Hid (shC kn=true->ts.length<256/\Calls Tryz.prog 70 #[.pointer (some ⟨b,0,none⟩),.int .i64 ts.length] wr fun e w'=>WrR b (l++[UInt8.ofNat kn]++fsB hd 2++[UInt8.ofNat ts.length]) wr g2 e w'):=fun hs=>by
     have hk9:hd.k=9:=by
      unfold shC at hs;have h9:kn=9:=(by simpa using hs);have:=HKN.out;have:=HCN.out.k;omega
     have hn:=HCN.out.n;rw[if_neg (by omega),if_neg (by omega),if_pos hk9] at hn;refine⟨hn,V8 b g2 _ ts.length wr (by omega) HB2.out ?_⟩;rw[HFS.out.2.1,List.length_append,List.length_append,List.length_append,List.length_singleton];have h1:=j16 HCN.out a0;have h2:=j16 HCN.out a1;have:=HL.out;omega
    have HFL:Hid (l++[UInt8.ofNat kn]++fsB hd 2++(if shC kn=true then [UInt8.ofNat ts.length] else [])=l++[UInt8.ofNat kn]++fldB hd ts.length):=(by show _=_;rw[HFS.out.2.2,List.append_assoc (l++[UInt8.ofNat kn])]);generalize shC kn=cb at *
    go_upto_if 29 with fail
    go_cut[] from 30 to 34 (fun wz=>∃g3,Bw wz b g3 (l++[UInt8.ofNat kn]++fldB hd ts.length)/\Wr b W wz g g3)
    case first=>
     cases cb
     ·go_wp2_with fail;go_meet
      case rel=>
       refine⟨g2,?_,HW2.out⟩;rw[<- HFL.out];simp only[Bool.false_eq_true,if_false,List.append_nil];exact HB2.out
     ·obtain⟨hn,hsm⟩:=HSM.out rfl;have HSM2:Hid (Calls Tryz.prog 70 #[.pointer (some ⟨b,0,none⟩),.int .i64 ts.length] wr fun e w'=>WrR b (l++[UInt8.ofNat kn]++fsB hd 2++[UInt8.ofNat ts.length]) wr g2 e w'):=hsm;clear hsm hn HSM;go_wp2_with fail;refine HSM2.out.mono ?_;rintro e w3 ⟨rfl,g3,hb3,hw3⟩;have HB3:Hid (Bw w3 b g3 (l++[UInt8.ofNat kn]++fldB hd ts.length)):=by
       show Bw _ _ _ _;rw[<- HFL.out];simp only[if_true];exact hb3
      have HW3:Hid (Wr b W w3 g g3):=HW2.out.trans hw3;clear hb3 hw3;go_wp2_with fail;go_meet
      case rel=>exact⟨g3,HB3.out,HW3.out⟩
    case rest=>
     clear HSM HFL HB2 lk1 ls1 lc3 HBK2;obtain⟨g3,hb3,hw3⟩:=hcut;have HB3:Hid (Bw wc b g3 (l++[UInt8.ofNat kn]++fldB hd ts.length)):=hb3;have HW3:Hid (Wr b W wc g g3):=hw3;obtain⟨-,ls3⟩:=HLK.out g3 wc hw3;clear hb3 hw3;have HCH:Hid (∀(i:Nat) (hi:i<ts.length) g' wr l',Wr b W wr g g'->Bw wr b g' l'->l'.length+(ts[i]).size*140000<=140737488355328->∃bb o,a=some ⟨bb,o,none⟩/\∃sl,wr.rangeAt bb (o+i*15) ((ts[i]).hd.cells sl)/\sl.oneCell'=true/\∀wq,Kp wr wq Nul->Calls Tryz.prog 71 #[.pointer (some ⟨b,0,none⟩),(ts[i]).hd.val sl] wq fun e w'=>WrR b (l'++ndB ts[i]) wq g' e w'):=fun i hi g' wr l' hw hb' hlen=>by
      have hn:=HND.out g' wr hw;rw[NdIn] at hn;obtain⟨a2,c2,e1,h2,h3,h4⟩:=hn;injection e1 with e1 e2 e3;subst e1;rcases h4 with ⟨h5,_⟩|⟨bb,o,rfl,hF,hns⟩
      ·rw[h5] at hi;simp at hi
      ·obtain⟨sl,hr,hni⟩:=hns.get i hi;refine⟨bb,o,rfl,sl,hr,hni.one,fun wq hq=>?_⟩;have hs:=O9 ts i hi;obtain⟨q1,q2⟩:=HAP.out g' wr hw;exact IH.out ts[i] sl F g' l' wq (by have:=HNN.out;omega) (HCL.out.get i hi) (hni.kp hq (fun _ _ x=>x)) (q1.kp hq) (q2.kp hq) ((HSH.out g' wr hw).kp hq (fun x=>x)) (hb'.kp hq) hlen
     have HBD:Hid (∀(i:Nat) (hi:i<ts.length),(l++[UInt8.ofNat kn]++fldB hd ts.length++ndsB (ts.take i)).length+(ts[i]).size*140000<=140737488355328):=fun i hi=>by
      rw[List.length_append,List.length_append,List.length_append,List.length_singleton];have h1:=j2F HCN.out;have h2:=j1H (ts.take i) (HCL.out.take i);have h3:=j0K ts i hi;have h4:=j0L ts (i+1);have:=HL.out;omega
     have HTK:Hid (∀(i:Nat) (hi:i<ts.length),ndsB (ts.take (i+1))=ndsB (ts.take i)++ndB ts[i]):=(fun i hi=>j4u ts i hi);have HEND:Hid (∀g' wr,Bw wr b g' (l++[UInt8.ofNat kn]++fldB hd ts.length++ndsB ts)->Wr b W wr g g'->WrR b (l++ndB (.mk hd ts)) w g (.returned (.tuple #[])) wr):=fun g' wr h1 h2=>by
      refine⟨rfl,g',?_,(Wr.nul HKP.out).trans h2⟩;rw[ndB,HKN.out];rw[List.append_assoc,List.append_assoc] at h1;exact h1
     have hml:(ts.length:Int)<=9223372036854775806:=(by have:=j07 ts;have:=HL.out;omega);obtain⟨n,hn⟩:∃n,ts.length=n:=⟨_,rfl⟩;have HN:Hid (ts.length=n):=hn;rw[hn] at ls3 hml;clear hn HLK HC0 HFS HSH HND HAP IH HBK HCN HL HNN HKP HML HA0 HKN HK10;go_wp2_with fail;go_loopw[38] (fun si wr=>∃i:Nat,i<=n/\si=.int .i64 i/\∃g',Bw wr b g' (l++[UInt8.ofNat kn]++fldB hd ts.length++ndsB (ts.take i))/\Wr b W wr g g') (fun si _=>((n:Int)-RowKit.intOf si).toNat)
     case atStart=>exact⟨0,Nat.zero_le _,by simp,g3,by rw[List.take_zero,ndsB,List.append_nil];exact HB3.out,HW3.out⟩
     case round=>
      clear HB3 HW3;obtain⟨i,hi,rfl,g4,hb4,hw4⟩:=hrel;have HB4:Hid (Bw wr b g4 (l++[UInt8.ofNat kn]++fldB hd ts.length++ndsB (ts.take i))):=hb4;have HW4:Hid (Wr b W wr g g4):=hw4;clear hb4 hw4;by_cases hlt:i<n
      ·have hi2:i<ts.length:=(by rw[HN.out];exact hlt);obtain⟨bb,o,rfl,sl,hr,hone,hcall⟩:=HCH.out i hi2 g4 wr _ HW4.out HB4.out (HBD.out i hi2);have HR:Hid (wr.rangeAt bb (o+i*15) ((ts[i]).hd.cells sl)):=hr;have O1:Hid (sl.oneCell'=true):=hone;have HCL2:Hid (∀wq,Kp wr wq Nul->Calls Tryz.prog 71 #[.pointer (some ⟨b,0,none⟩),(ts[i]).hd.val sl] wq fun e w'=>WrR b (l++[UInt8.ofNat kn]++fldB hd ts.length++ndsB (ts.take (i+1))) wq g4 e w'):=fun wq hq=>by
        have:=hcall wq hq;rw[List.append_assoc,<- HTK.out i hi2] at this;exact this
       clear hr hone hcall;generalize (ts[i]).hd=hh at *;have hlt':(i:Int)<(n:Int):=(by omega);go_wp2_with (first|(refine wpList_load_mid rfl 64 (.tmp 40) rfl bb (o+i*15) rfl (hh.cells sl) _ HR.out Tryz.underlying64 rfl z6 ?_)|(refine I5 rfl 64 (.tmp 7) (.tmp 41) rfl _ _ _ _ _ (by first|rfl|simp) rfl rfl rfl z6 (hh.one O1.out) ?_)|(refine L4 rfl (.tmp 7) rfl wr.heap.size rfl (hh.cells sl).toArray (heap_alloc_new _ _) rfl ?_));refine(HCL2.out _ ((Kp.refl _ _).alloc _)).mono ?_;rintro e w5 ⟨rfl,g5,hb5,hw5⟩;have HB5:Hid (Bw w5 b g5 (l++[UInt8.ofNat kn]++fldB hd ts.length++ndsB (ts.take (i+1)))):=hb5;have HW5:Hid (Wr b W w5 g g5):=(HW4.out.trans (Wr.nul ((Kp.refl _ _).alloc _))).trans hw5;clear hb5 hw5;go_wp2_with fail;go_roundw
       case rel=>exact⟨i+1,by omega,by go_num,g5,HB5.out,HW5.out⟩
       case measure=>simp only[RowKit.intOf];omega
      ·have hie:i=n:=(by omega);subst hie;have HB6:Hid (Bw wr b g4 (l++[UInt8.ofNat kn]++fldB hd ts.length++ndsB ts)):=by
        have:=HB4.out;rw[<- HN.out,List.take_length] at this;exact this
       go_wp2_with fail
       go_end0
       exact HEND.out _ _ HB6.out HW4.out
theorem jFB (b:Nat)(g:Option Nat)(l:List UInt8)(t:Nd)(sl:Value)(F:Nat->Prop)(w:World)(hc:KnN t)(hin:NdIn w F sl t)(ha:Apt F b g w)(hg:Apt (fun i=>i=1) b g w)(hs:Sh w)(hb:Bw w b g l)(hl:l.length+t.size*140000<=140737488355328):
 Calls Tryz.prog 71 #[.pointer (some ⟨b,0,none⟩),t.hd.val sl] w fun e w'=>WrR b (l++ndB t) w g e w':=
 jFA b t.size t sl F g l w (Nat.le_refl _) hc hin ha hg hs hb hl
inductive KnC (c:Ct):Prop
 | plain (h:c.k=1) (hv:KnV c.v)
 | form (h:c.k=2) (ht:KnN c.t) (hs:c.t.size<=256)
theorem jEm {v:Vl}(h:KnV v):(vlB v).length<=65539:=by
 have hs:=h.s;unfold vlB vlF;rw[List.length_cons];repeat' split
 ·rw[D8];decide
 ·rw[j0r];omega
 ·rw[List.length_singleton];decide
 ·rw[List.length_singleton];decide
 ·decide
def L2 (c r:Nat) (ct:Ct):List UInt8:=le 2 c++le 2 r++ctB ct
theorem j1w {c r:Nat}{ct:Ct}(h:KnC ct):(L2 c r ct).length<=18000000:=by
 unfold L2 ctB;rw[List.length_append,List.length_append,D8,D8,List.length_cons];cases h with
 | plain h hv=>rw[if_neg (by omega)];have:=jEm hv;omega
 | form h ht hs=>rw[if_pos h];have:=j2b ct.t ht;omega
theorem jEr (b:Nat)(g:Option Nat)(l:List UInt8)(c r:Nat)(ct:Ct)(sl:Value)(F:Nat->Prop)(w:World)(hc:c<65536)(hr:r<65536)(hct:KnC ct)(hone:sl.oneCell'=true)(hin:NdIn w F sl ct.t)(ha:Apt F b g w)(hg:Apt (fun i=>i=1) b g w)(hs:Sh w)(hb:Bw w b g l)(hl:l.length+40000000<=140737488355328):
 Calls Tryz.prog 31 #[.pointer (some ⟨b,0,none⟩),.agg #[.int .i64 c,.int .i64 r],ct.val sl] w fun e w'=>WrR b (l++L2 c r ct) w g e w':=by
 obtain⟨W,hW⟩:∃W,(w.alloc (.cells #[.int .i64 c,.int .i64 r] 57)).alloc (.cells (ct.cells sl).toArray 66)=W:=⟨_,rfl⟩;have kp0:Kp w W Nul:=by rw[<- hW];exact((Kp.refl w Nul).alloc _).alloc _
 have hB1:Blk W w.heap.size [.int .i64 c,.int .i64 r] 57:=by rw[<- hW];exact(Blk.new w [.int .i64 c,.int .i64 r] _).alloc _
 have hB2:Blk W (w.heap.size+1) (ct.cells sl) 66:=by
  have:=Blk.new (w.alloc (.cells #[.int .i64 c,.int .i64 r] 57)) (ct.cells sl) 66;rw[World.size_alloc,hW] at this;exact this
 have hA2:Apt (fun i=>i=w.heap.size+1) b g W:=by
  have h1:=hb.kp ((Kp.refl w Nul).alloc (.cells #[.int .i64 c,.int .i64 r] 57));have h2:=h1.new (W:=W) (by rw[World.size_alloc];exact hB2.lt);rw[World.size_alloc] at h2;exact h2
 have HB2:Hid (∀g' wr,Wr b W wr g g'->Blk wr (w.heap.size+1) (ct.cells sl) 66):=fun g' wr k=>hB2.wr k hA2
 have bd1:(l++(le 2 c++le 2 r)).length=l.length+4:=by rw[List.length_append,List.length_append,D8,D8]
 have bd2:∀x,(l++(le 2 c++le 2 r)++[x]).length=l.length+5:=fun x=>by rw[List.length_append,bd1,List.length_singleton]
 have H1:Hid (Calls Tryz.prog 69 #[.pointer (some ⟨b,0,none⟩),.agg #[.int .i64 c,.int .i64 r]] W fun e w'=>WrR b (l++(le 2 c++le 2 r)) W g e w'):=j6v b g l c r W hc hr (hb.kp kp0) (by omega);have H2:Hid (∀(n:Nat) g' w',n<3->Bw w' b g' (l++(le 2 c++le 2 r))->Calls Tryz.prog 70 #[.pointer (some ⟨b,0,none⟩),.int .i64 n] w' fun e w2=>WrR b (l++(le 2 c++le 2 r)++[UInt8.ofNat n]) w' g' e w2):=fun n g' w' hn h'=>V8 b g' _ n w' (by omega) h' (by omega)
 have H3:Hid (KnV ct.v->∀x g' w',Bw w' b g' (l++(le 2 c++le 2 r)++[x])->Calls Tryz.prog 72 #[.pointer (some ⟨b,0,none⟩),ct.v.val] w' fun e w2=>WrR b (l++(le 2 c++le 2 r)++[x]++vlB ct.v) w' g' e w2):=fun hv x g' w' h'=>jFN b g' _ ct.v w' hv h' (by have:=bd2 x;omega)
 have H4:Hid (KnN ct.t->ct.t.size<=256->∀x g' w',Wr b W w' g g'->Bw w' b g' (l++(le 2 c++le 2 r)++[x])->Calls Tryz.prog 71 #[.pointer (some ⟨b,0,none⟩),ct.t.hd.val sl] w' fun e w2=>WrR b (l++(le 2 c++le 2 r)++[x]++ndB ct.t) w' g' e w2):=fun ht hz x g' w' hw h'=>jFB b g' _ ct.t sl F w' ht ((hin.kp kp0 (fun _ _ x=>x)).wr hw (ha.kp kp0)) ((ha.kp kp0).wr hw) ((hg.kp kp0).wr hw) ((hs.kp kp0 (fun x=>x)).kp hw.kp (Wr.not (hg.kp kp0) _ rfl)) h' (by have:=bd2 x;omega)
 have FIN:Hid (∀m g' e w2,ctB ct=m->Bw w2 b g' (l++(le 2 c++le 2 r)++m)->Wr b W w2 g g'->e=.returned (.tuple #[])->WrR b (l++L2 c r ct) w g e w2):=fun m g' e w2 em h1 h2 h3=>by
  subst em;refine⟨h3,g',?_,(Wr.nul kp0).trans h2⟩;unfold L2;rw[<- List.append_assoc];exact h1
 have HW:Hid ((w.alloc (.cells #[.int .i64 c,.int .i64 r] 57)).alloc (.cells (ct.cells sl).toArray 66)=W):=hW;have l0:W.cell? ⟨w.heap.size,0,none⟩=some (.int .i64 c):=hB1.cell rfl;have l1:W.cell? ⟨w.heap.size,1,none⟩=some (.int .i64 r):=hB1.cell rfl;have HCT:Hid (KnC ct):=hct;have O1:Hid (sl.oneCell'=true):=hone;clear hW kp0 hB1 hB2 hA2 bd1 bd2 hc hr hct hone hin ha hg hs hb hl;go_enter Tryz.func31,Tryz.ntmps31;go_wp2_with (first|(rw[HW.out])|fail);refine H1.out.mono ?_;rintro e w1 ⟨rfl,g1,hb1,hw1⟩;have HB1:Hid (Bw w1 b g1 (l++(le 2 c++le 2 r))):=hb1;have HW1:Hid (Wr b W w1 g g1):=hw1;have hBc:=HB2.out g1 w1 hw1;clear hb1 hw1 H1 l0 l1 HW;cases HCT.out with
 | plain hk hv=>
  have l2:w1.cell? ⟨w.heap.size+1,0,none⟩=some (.int .i64 1):=by rw[<- hk];exact hBc.cell rfl
  have HV:Hid (KnV ct.v):=hv;have HK:Hid (ct.k=1):=hk;clear hk hv hBc H4;go_wp2_with fail;refine(H2.out 1 g1 w1 (by decide) HB1.out).mono ?_;rintro e w2 ⟨rfl,g2,hb2,hw2⟩;have HB3:Hid (Bw w2 b g2 (l++(le 2 c++le 2 r)++[UInt8.ofNat 1])):=hb2;have HW2:Hid (Wr b W w2 g g2):=HW1.out.trans hw2;have hBc:=HB2.out g2 w2 HW2.out;have l3:w2.cell? ⟨w.heap.size+1,0,none⟩=some (.int .i64 1):=by rw[<- HK.out];exact hBc.cell rfl
  have HR:Hid (w2.rangeAt (w.heap.size+1) 1 ct.v.cells):=J6 (pre:=[.int .i64 ct.k]) (l:=ct.v.cells) (post:=ct.t.hd.cells sl) hBc;clear hb2 hw2 hBc l2 H2;go_wp2_with (first|(refine wpList_load_mid rfl 59 (.tmp 21) rfl (w.heap.size+1) 1 rfl ct.v.cells _ HR.out Tryz.underlying59 rfl E7 ?_)|fail);refine(H3.out HV.out _ g2 w2 HB3.out).mono ?_;rintro e w3 ⟨rfl,g3,hb3,hw3⟩;have HH:Hid (WrR b (l++L2 c r ct) w g (.returned (.tuple #[])) w3):=FIN.out _ g3 _ w3 (by unfold ctB;rw[HK.out,if_neg (by decide)]) (by rw[List.append_assoc] at hb3;exact hb3) (HW2.out.trans hw3) rfl;clear hb3 hw3 l3;go_wp2_with fail
  go_end0
  exact HH.out
 | form hk ht hz=>
  have l2:w1.cell? ⟨w.heap.size+1,0,none⟩=some (.int .i64 2):=by rw[<- hk];exact hBc.cell rfl
  have HT:Hid (KnN ct.t/\ct.t.size<=256):=⟨ht,hz⟩;have HK:Hid (ct.k=2):=hk;clear hk ht hz hBc H3;go_wp2_with fail;refine(H2.out 2 g1 w1 (by decide) HB1.out).mono ?_;rintro e w2 ⟨rfl,g2,hb2,hw2⟩;have HB3:Hid (Bw w2 b g2 (l++(le 2 c++le 2 r)++[UInt8.ofNat 2])):=hb2;have HW2:Hid (Wr b W w2 g g2):=HW1.out.trans hw2;have hBc:=HB2.out g2 w2 HW2.out;have l3:w2.cell? ⟨w.heap.size+1,0,none⟩=some (.int .i64 2):=by rw[<- HK.out];exact hBc.cell rfl
  have HR:Hid (w2.rangeAt (w.heap.size+1) 6 (ct.t.hd.cells sl)):=J6 (pre:=[.int .i64 ct.k,.int .i64 ct.v.k,.float .f64 ct.v.x,.string ct.v.s,.bool ct.v.b,.int .i64 ct.v.f]) (l:=ct.t.hd.cells sl) (post:=[]) hBc;clear hb2 hw2 hBc l2 H2;go_wp2_with (first|(refine wpList_load_mid rfl 64 (.tmp 17) rfl (w.heap.size+1) 6 rfl (ct.t.hd.cells sl) _ HR.out Tryz.underlying64 rfl z6 ?_)|fail);refine(H4.out HT.out.1 HT.out.2 _ g2 w2 HW2.out HB3.out).mono ?_;rintro e w3 ⟨rfl,g3,hb3,hw3⟩;have HH:Hid (WrR b (l++L2 c r ct) w g (.returned (.tuple #[])) w3):=FIN.out _ g3 _ w3 (by unfold ctB;rw[HK.out,if_pos rfl]) (by rw[List.append_assoc] at hb3;exact hb3) (HW2.out.trans hw3) rfl;clear hb3 hw3 l3;go_wp2_with fail
  go_end0
  exact HH.out
theorem j3b:Tryz.prog.cellsOf 5=1:=by kernel_rfl
theorem j39 (b:Nat)(g:Option Nat)(l:List UInt8)(w:World)(h0:l≠[])(h:Bw w b g l):
 Calls Tryz.prog 34 #[.pointer (some ⟨b,0,none⟩)] w fun e w'=>e=.returned (.string ⟨l.toArray⟩)/\Bw w' b g l/\Wr b w w' g g:=by
 obtain⟨p,v,hp,hbk,hown,hg,hne⟩:=h;have hl0:l.length≠0:=by simpa using h0
 obtain⟨r,cap,cur,fz,rfl,-,hr,hfz,hnc,hcm,hcs,htake⟩:∃r cap cur fz,v=.slice (some ⟨r,0,none⟩) l.length cap/\0<=r/\w.heap[r]? = some (.cells cur 5 fz)/\fz.2<=l.length*1/\l.length<=cap/\cap<=maxLen/\cur.size=cap*1/\cur.toList.take (l.length*1)=Lib.byteCells l:=by
  rcases hown.2 with ⟨_,hz⟩|⟨r,cap,cur,fz,hv,q⟩
  ·exact absurd hz hl0
  ·exact⟨r,cap,cur,fz,hv,q⟩
 have hgr:g=some r:=hg.symm;subst hgr;have c1:w.drew.cell? ⟨b,1,none⟩=some (.slice (some ⟨r,0,none⟩) l.length cap):=by
  have:w.drew.heap[b]? = some (.cells #[p,.slice (some ⟨r,0,none⟩) l.length cap] 74 (0,0)):=hbk;rw[Lib.cell_of_heap this];rfl
 have hSD:(Builtin.unsafeSliceData_ #[70] 141 #[.slice (some ⟨r,0,none⟩) l.length cap]).run Tryz.prog w.drew=.ok (.pointer (some ⟨r,0,none⟩)) w.drew:=
  Lib.run_unsafeSliceData_row _ _ _ _ _ _ (by omega)
 have hUS:(Builtin.unsafeString_ #[141,3] 9 #[.pointer (some ⟨r,0,none⟩),.int .i64 l.length]).run Tryz.prog w.drew=.ok (.string ⟨l.toArray⟩) (w.drew.freeze ⟨r,0,none⟩ l.length):=by
  refine Lib.run_unsafeString_row w.drew 141 3 9 5 Tryz.underlying141 j3b r cur.size (by have hg':w.drew.heap[r]? = some (.cells cur 5 fz):=hr;simp[World.shape?,hg']) l h0 (by omega) (by unfold maxLen at hcm;omega) ?_;intro j x hx;have:=hown.cells (g:=r) rfl j (.int .u8 x.toNat) (by simp[Lib.byteCells,hx]);exact this
 have hkeep:Bw (w.drew.freeze ⟨r,0,none⟩ l.length) b (some r) l:=by
  have hA:Lib.BuilderAtF 74 5 0 b p (Lib.byteCells l) w.drew:=⟨Nat.zero_le _,_,hbk,by rw[Lib.byteCells_length];exact hown,by rw[hg];exact hne⟩;obtain⟨_,v2,h2,h3,h4⟩:=hA.froze (g:=r) (cap:=cap) (by rw[Lib.byteCells_length];exact c1);rw[Lib.byteCells_length] at h2 h3;have hgb:r≠b:=fun e=>hne (by rw[e])
  have e:v2=.slice (some ⟨r,0,none⟩) l.length cap:=by
   have h1:(w.drew.freeze ⟨r,0,none⟩ l.length).heap[b]? = some (.cells #[p,.slice (some ⟨r,0,none⟩) l.length cap] 74 (0,0)):=by
    unfold World.freeze;split
    ·exact hbk
    ·simp only[Array.getElem?_modify];rw[if_neg hgb];exact hbk
   rw[h1] at h2
   simpa using h2.symm
  subst e;exact⟨p,_,hp,h2,h3,rfl,hne⟩
 have hwr:Wr b w (w.drew.freeze ⟨r,0,none⟩ l.length) (some r) (some r):=by
  refine⟨?_,.inl rfl⟩;unfold World.freeze;split
  ·exact(Kp.refl w _).drew
  ·refine⟨rfl,rfl,rfl,by simp,fun i hi hs=>?_⟩;simp only[Array.getElem?_modify];rw[if_neg (fun e=>hs (.inr (by rw[e])))]
   rfl
 have HH:Hid (Bw (w.drew.freeze ⟨r,0,none⟩ l.length) b (some r) l/\Wr b w (w.drew.freeze ⟨r,0,none⟩ l.length) (some r) (some r)):=⟨hkeep,hwr⟩;clear hkeep hwr htake hcs hcm hnc hfz hr hne hg hown hbk hp;have mixed:Tryz.prog.follows Departure.mixedOrders=true:=by kernel_rfl
 go_enter Tryz.func34,Tryz.ntmps34;go_wp2
 go_region_o
 all_goals (go_wp2;go_ret;exact⟨rfl,HH.out⟩)
theorem j20:∀(n:Nat) (c:BitVec 32),crcN (n+1) c=crcF (crcN n c)
 | 0,c=>rfl
 | n+1,c=>by rw[crcN,j20 n (crcF c)];rfl
theorem Z9 (a b:Nat)(ha:a<4294967296)(hb:b<4294967296):bits .xor .u32 (a:Int) (b:Int)=((a ^^^ b:Nat):Int):=by
 have hx:a ^^^ b<2^32:=Nat.xor_lt_two_pow (by omega) (by omega);have h1:(BitVec.ofInt 32 (a:Int)).toNat=a:=by rw[BitVec.ofInt_natCast,BitVec.toNat_ofNat];exact Nat.mod_eq_of_lt (by omega)
 have h2:(BitVec.ofInt 32 (b:Int)).toNat=b:=by rw[BitVec.ofInt_natCast,BitVec.toNat_ofNat];exact Nat.mod_eq_of_lt (by omega)
 show IntKind.u32.wrap ((BitVec.ofInt 32 (a:Int) ^^^ BitVec.ofInt 32 (b:Int)).toNat:Int)=_;rw[BitVec.toNat_xor,h1,h2,IntKind.wrap_u32];omega
theorem jFP (a b:Nat)(ha:a<256)(hb:b<256):bits .xor .u8 (a:Int) (b:Int)=((a ^^^ b:Nat):Int):=by
 have hx:a ^^^ b<2^8:=Nat.xor_lt_two_pow (by omega) (by omega);have h1:(BitVec.ofInt 8 (a:Int)).toNat=a:=by rw[BitVec.ofInt_natCast,BitVec.toNat_ofNat];exact Nat.mod_eq_of_lt (by omega)
 have h2:(BitVec.ofInt 8 (b:Int)).toNat=b:=by rw[BitVec.ofInt_natCast,BitVec.toNat_ofNat];exact Nat.mod_eq_of_lt (by omega)
 show IntKind.u8.wrap ((BitVec.ofInt 8 (a:Int) ^^^ BitVec.ofInt 8 (b:Int)).toNat:Int)=_;rw[BitVec.toNat_xor,h1,h2,IntKind.wrap_u8];omega
theorem j79 (a:Nat)(ha:a<4294967296):bits .and .u32 (a:Int) 1=((a%2:Nat):Int):=by
 have h:=(bits_nat .u32 32 (by decide) (fun n h0 h1=>by rw[IntKind.wrap_u32];omega) a 1 (by omega) (by decide)).1;rw[Nat.and_one_is_mod] at h;exact h
theorem j8u (c:BitVec 32):bits .xor .u32 ((c.toNat:Int)/2) (bits .and .u32 (c.toNat:Int) 1*3988292384%4294967296)=((crcF c).toNat:Int):=by
 have hc:=c.isLt;have h0:c.getLsbD 0=decide (c.toNat%2=1):=by rw[BitVec.getLsbD,Nat.testBit_zero]
 rw[j79 _ (by omega)];unfold crcF;rw[h0,BitVec.toNat_xor,BitVec.toNat_ushiftRight,Nat.shiftRight_eq_div_pow];rcases Nat.mod_two_eq_zero_or_one c.toNat with q|q
 ·rw[q];have:=Z9 (c.toNat/2) 0 (by omega) (by decide)
  simpa using this
 ·rw[q];have:=Z9 (c.toNat/2) 3988292384 (by omega) (by decide)
  simpa using this
def stpB (j:Nat):Int:=((crcN 8 (BitVec.ofNat 32 j)).toNat:Int)
def F3 (i:Nat):List Value:=(List.range 256).map fun j=>.int .u32 (if j<i then stpB j else 0)
theorem Z2 (i:Nat):(F3 i).length=256:=by unfold F3;rw[List.length_map,List.length_range]
theorem j1i (i j:Nat)(hj:j<256):(F3 i)[j]? = some (.int .u32 (if j<i then stpB j else 0)):=by
 unfold F3;rw[List.getElem?_map,List.getElem?_range hj]
 rfl
theorem jEG (i j:Nat)(hj:j<256)(h:i<=j):(F3 i)[j]? = some (.int .u32 0):=by rw[j1i i j hj,if_neg (by omega)]
theorem jEH (i:Nat)(hi:i<256):(F3 i).set i (.int .u32 (stpB i))=F3 (i+1):=by
 refine List.ext_getElem? fun j=>?_
 rcases Nat.lt_or_ge j 256 with hj|hj
 ·rw[List.getElem?_set,j1i (i+1) j hj];by_cases e:i=j
  ·subst e;rw[if_pos rfl,if_pos (by rw[Z2];exact hi),if_pos (by omega)]
  ·rw[if_neg e,j1i i j hj];by_cases h:j<i
   ·rw[if_pos h,if_pos (by omega)]
   ·rw[if_neg h,if_neg (by omega)]
 ·rw[List.getElem?_eq_none (by rw[List.length_set,Z2];exact hj),List.getElem?_eq_none (by rw[Z2];exact hj)]
theorem j6K (i:Nat):(F3 i).toArray.all (·.oneCell')=true:=by
 rw[List.all_toArray,List.all_eq_true];intro x hx;unfold F3 at hx;rw[List.mem_map] at hx;obtain⟨j,_,rfl⟩:=hx
 rfl
theorem j1B:(Tryz.prog.info? 139).map (·.size)=some 256:=by kernel_rfl
theorem j71:Tryz.zeroCells139=(F3 0).toArray:=by kernel_rfl
theorem jDX (n:Nat)(hn:n<256)(w:World):(convert 3 86 (.int .i64 n)).run Tryz.prog w=.ok (.int .u32 n) w:=by
 have e:(n:Int)%4294967296=n:=by omega
 simp[go_sem,convert,run_underlying Tryz.underlying86,run_underlying Tryz.underlying3,IntKind.wrap,IntKind.signed,e]
theorem jEE (w:World):Calls Tryz.prog 73 #[] w fun e w'=>e=.returned (.agg (F3 256).toArray)/\Kp w w' Nul:=by
 obtain⟨W,hW⟩:∃W,(w.alloc (.cells Tryz.zeroCells139 139)).alloc (.cells Tryz.zeroCells139 139)=W:=⟨_,rfl⟩;have HW:Hid ((w.alloc (.cells Tryz.zeroCells139 139)).alloc (.cells Tryz.zeroCells139 139)=W):=hW;rw[j71] at hW;have HB0:Hid (Blk W w.heap.size (F3 0) 139):=by show Blk _ _ _ _;rw[<- hW];exact(Blk.new w (F3 0) _).alloc _
 have HB1:Hid (Blk W (w.heap.size+1) (F3 0) 139):=by
  have:=Blk.new (w.alloc (.cells (F3 0).toArray 139)) (F3 0) 139;rw[World.size_alloc,hW] at this;exact this
 have HK:Hid (Kp w W Nul):=by show Kp _ _ _;rw[<- hW];exact((Kp.refl w Nul).alloc _).alloc _
 clear hW;go_enter Tryz.func73,Tryz.ntmps73;go_wp2_with (first|(rw[HW.out])|fail);go_loopw[5] (fun si wr=>∃i:Nat,i<=256/\si=.int .i64 i/\Blk wr (w.heap.size+1) (F3 i) 139/\Kp W wr (fun j=>j=w.heap.size+1)) (fun si _=>(256-RowKit.intOf si).toNat)
 case atStart=>exact⟨0,by decide,by simp,HB1.out,Kp.refl _ _⟩
 case round=>
  obtain⟨i,hi,rfl,hb,hk⟩:=hrel;have HB:Hid (Blk wr (w.heap.size+1) (F3 i) 139):=hb;have HKW:Hid (Kp W wr (fun j=>j=w.heap.size+1)):=hk;clear hb hk;by_cases hlt:i<256
  ·have hcv:=jDX i hlt;have hlt':(i:Int)<256:=(by omega);go_wp2_with fail;clear hcv;go_loopw[3,10] (fun s3 s10 wq=>∃k:Nat,k<=8/\s10=.int .i64 k/\s3=.int .u32 ((crcN k (BitVec.ofNat 32 i)).toNat:Int)/\wq=wr) (fun _ s10 _=>(8-RowKit.intOf s10).toNat)
   case atStart=>exact⟨0,by decide,by simp,by rw[crcN,BitVec.toNat_ofNat,Nat.mod_eq_of_lt (by omega)],rfl⟩
   case round=>
    rename_i wq _ _
    obtain⟨k,hk8,rfl,rfl,hwq⟩:=hrel;obtain⟨x,hx⟩:∃x:Int,((crcN k (BitVec.ofNat 32 i)).toNat:Int)=x:=⟨_,rfl⟩;rw[hx];by_cases hlk:k<8
    ·have hlk':(k:Int)<8:=(by omega);have HX:Hid (bits .xor .u32 (x/2) (bits .and .u32 x 1*3988292384%4294967296)=((crcN (k+1) (BitVec.ofNat 32 i)).toNat:Int)):=by
      show _=_;rw[j20,<- hx];exact j8u _
     clear hx;go_wp2_with fail;exact⟨⟨k+1,by omega,by go_num,by rw[HX.out],by trivial⟩,by simp only[RowKit.intOf];omega⟩
    ·have hke:k=8:=(by omega);subst hke;have hx':x=stpB i:=hx.symm;subst hx';subst hwq;clear hx;have l0:wr.cell? ⟨w.heap.size+1,i,none⟩=some (.int .u32 0):=HB.out.cell (jEG i i hlt (Nat.le_refl _));have f0:wr.frozen? ⟨w.heap.size+1,i,none⟩=false:=HB.out.froz i;have HS:Hid (Blk (wr.setCell ⟨w.heap.size+1,i,none⟩ (.int .u32 (stpB i))) (w.heap.size+1) (F3 (i+1)) 139):=by
      have:=HB.out.set i (.int .u32 (stpB i));rw[jEH i hlt] at this;exact this
     have HKS:Hid (Kp W (wr.setCell ⟨w.heap.size+1,i,none⟩ (.int .u32 (stpB i))) (fun j=>j=w.heap.size+1)):=HKW.out.setCell _ _ (.inr rfl);generalize stpB i=y at *;go_wp2_with fail;exact⟨⟨i+1,by omega,by go_num,HS.out,HKS.out⟩,by simp only[RowKit.intOf];omega⟩
  ·have hie:i=256:=(by omega);subst hie;have HB0':Hid (Blk wr w.heap.size (F3 0) 139):=HB0.out.kp HKW.out (fun e=>by omega);have HR:Hid (wr.rangeAt (w.heap.size+1) 0 (F3 256)):=J6 (pre:=[]) (post:=[]) (by rw[List.append_nil];exact HB.out);have HKf:Hid (∀X,Kp wr X (fun j=>j=w.heap.size)->Kp w X Nul):=(fun X h=>(HK.out.trans' HKW.out (fun j hj e=>by have e':j=w.heap.size+1:=e;omega)).trans' h (fun j hj e=>by have e':j=w.heap.size:=e;omega));generalize hz:F3 256=z at *;have HZ:Hid (z.length=256):=(by show _=_;rw[<- hz,Z2]);have HZ1:Hid (z.toArray.all (·.oneCell')=true):=(by show _=_;rw[<- hz];exact j6K 256);have HZe:Hid (z=F3 256):=hz.symm;clear hz;go_wp2_with (first|(refine wpList_load_mid rfl 139 (.tmp 1) rfl (w.heap.size+1) 0 rfl z _ HR.out Tryz.underlying139 rfl (by rw[HZ.out];exact j1B) ?_)|(refine G6 rfl 139 (.tmp 0) (.tmp 24) rfl w.heap.size (F3 0) z 139 HB0'.out (by rw[Z2,HZ.out]) rfl rfl (by rw[HZ.out];exact j1B) HZ1.out ?_;intro X hbX hkX)|fail)
   refine bodyPost_ret (results_cell_row rfl _ _ w.heap.size 139 _ (0,0) _ rfl hbX Tryz.underlying139 rfl (by rw[List.size_toArray,HZ.out];exact j1B)) rfl ?_;exact⟨by rw[HZe.out],HKf.out X hkX⟩
theorem jDY (x:Nat)(w:World):(convert 86 5 (.int .u32 x)).run Tryz.prog w=.ok (.int .u8 ((x%256:Nat):Int)) w:=by
 have e:(((x%256:Nat)):Int)=(x:Int)%256:=by omega
 rw[e];simp[go_sem,convert,run_underlying Tryz.underlying86,run_underlying Tryz.underlying5,IntKind.wrap,IntKind.signed]
theorem jDQ (s:ByteArray)(i:Nat)(b:UInt8)(h:s.data.toList[i]? = some b)(w:World):(Instr.index 9 (.string s) (.int .i64 i)).run Tryz.prog w=.ok (.int .u8 b.toNat) w:=by
 have h2:s[i]? = some b:=by
  rw[Array.getElem?_toList] at h;obtain⟨h1,h3⟩:=Array.getElem?_eq_some_iff.1 h;have h4:i<s.size:=h1;rw[getElem?_pos s i h4];exact congrArg some h3
 simp[Instr.index,run_underlying Tryz.underlying9,go_sem,asIntOf,h2]
theorem j8z (c:BitVec 32):bits .xor .u32 IntKind.u32.max (c.toNat:Int)=((~~~ c).toNat:Int):=by
 have hc:=c.isLt;have h:=Z9 4294967295 c.toNat (by decide) (by omega);rw[BitVec.not_def,BitVec.toNat_xor,BitVec.toNat_allOnes];exact h
theorem j8s (c:BitVec 32)(b:UInt8):bits .xor .u32 (stpB ((c.toNat%256) ^^^ b.toNat)) ((c.toNat:Int)/256)=((crcB c b).toNat:Int):=by
 have hc:=c.isLt;unfold stpB;rw[j8t,BitVec.toNat_xor,BitVec.toNat_ushiftRight,Nat.shiftRight_eq_div_pow];have:=Z9 (crcN 8 (BitVec.ofNat 32 ((c.toNat%256) ^^^ b.toNat))).toNat (c.toNat/256) (BitVec.isLt _) (by omega);exact this
theorem j6M (s:ByteArray)(w:World)(hs:s.size<=9223372036854775806):Calls Tryz.prog 33 #[.string s] w fun e w'=>e=.returned (.int .u32 (crcS s.data.toList))/\Kp w w' Nul:=by
 have H:Hid (∀wq,Calls Tryz.prog 73 #[] wq fun e w'=>e=.returned (.agg (F3 256).toArray)/\Kp wq w' Nul):=fun wq=>jEE wq
 have HZ:Hid ((F3 256).length=256):=Z2 256;have HZ1:Hid ((F3 256).toArray.all (·.oneCell')=true):=j6K 256;have HG:Hid (∀j:Nat,j<256->(F3 256)[j]? = some (.int .u32 (stpB j))):=fun j hj=>by rw[j1i 256 j hj,if_pos hj]
 have HZZ:Hid (Tryz.zeroCells139.size=256):=by show _=_;rw[j71,List.size_toArray,Z2]
 generalize F3 256=z at *;obtain⟨n,hn⟩:∃n,s.size=n:=⟨_,rfl⟩;have HN:Hid (s.data.toList.length=n):=by show _=_;rw[Array.length_toList];exact hn
 have hnb:(n:Int)<=9223372036854775806:=by omega
 have hn':(s.size:Int)=n:=by omega
 clear hs hn;go_enter Tryz.func33,Tryz.ntmps33;go_wp2_with fail;refine(H.out _).mono ?_;rintro e w1 ⟨rfl,hk1⟩;have HK1:Hid (Kp w w1 Nul):=hk1;clear hk1 H;go_wp2_with (first|(refine I5 rfl 139 (.tmp 3) (.tmp 6) rfl _ _ _ _ _ (by first|rfl|simp) rfl rfl (by rw[HZZ.out,List.size_toArray,HZ.out]) (by rw[List.size_toArray,HZ.out];exact j1B) HZ1.out ?_)|fail);generalize hW:w1.alloc (.cells z.toArray 139)=W;have HB:Hid (Blk W w1.heap.size z 139):=by show Blk _ _ _ _;rw[<- hW];exact Blk.new w1 _ _
 have HKW:Hid (Kp w W Nul):=by show Kp _ _ _;rw[<- hW];exact HK1.out.alloc _
 clear hW;go_loopw[4,9] (fun s4 s9 wr=>∃i:Nat,i<=n/\s9=.int .i64 i/\s4=.int .u32 ((crcL (~~~ 0#32) (s.data.toList.take i)).toNat:Int)/\wr=W) (fun _ s9 _=>((n:Int)-RowKit.intOf s9).toNat)
 case atStart=>exact⟨0,Nat.zero_le _,by simp,rfl,rfl⟩
 case round=>
  rename_i wr _ _
  obtain⟨i,hi,rfl,rfl,hwr⟩:=hrel;obtain⟨c,hc⟩:∃c,crcL (~~~ 0#32) (s.data.toList.take i)=c:=⟨_,rfl⟩;rw[hc];by_cases hlt:i<n
  ·obtain⟨b,hb⟩:∃b,s.data.toList[i]? = some b:=⟨_,List.getElem?_eq_getElem (by rw[HN.out];exact hlt)⟩;have hix:=jDQ s i b hb;have hcv:=jDY c.toNat;have hj:(c.toNat%256) ^^^ b.toNat<256:=Nat.xor_lt_two_pow (n:=8) (Nat.mod_lt _ (by decide)) b.toNat_lt;have hxr:bits .xor .u8 ((c.toNat%256:Nat):Int) (b.toNat:Int)=(((c.toNat%256) ^^^ b.toNat:Nat):Int):=jFP _ _ (Nat.mod_lt _ (by decide)) b.toNat_lt;have hfin:bits .xor .u32 (stpB ((c.toNat%256) ^^^ b.toNat)) ((c.toNat:Int)/256)=((crcB c b).toNat:Int):=j8s c b;have hlc:W.cell? ⟨w1.heap.size,(c.toNat%256) ^^^ b.toNat,none⟩=some (.int .u32 (stpB ((c.toNat%256) ^^^ b.toNat))):=HB.out.cell (HG.out _ hj);have HT:Hid (crcL (~~~ 0#32) (s.data.toList.take (i+1))=crcB c b):=by
    show _=_;rw[List.take_add_one,hb,j3o,hc]
    rfl
   have hlt':(i:Int)<(n:Int):=(by omega);obtain⟨x,hx⟩:∃x:Int,(c.toNat:Int)=x:=⟨_,rfl⟩;obtain⟨j,hj'⟩:∃j:Nat,(c.toNat%256) ^^^ b.toNat=j:=⟨_,rfl⟩;obtain⟨m,hm⟩:∃m:Int,((c.toNat%256:Nat):Int)=m:=⟨_,rfl⟩;obtain⟨bi,hbi⟩:∃bi:Int,(b.toNat:Int)=bi:=⟨_,rfl⟩;obtain⟨y,hy⟩:∃y:Int,stpB j=y:=⟨_,rfl⟩;rw[hj',hy] at hlc hfin;rw[hm,hbi,hj'] at hxr;rw[hx,hm] at hcv;rw[hbi] at hix;rw[hj'] at hj;rw[hx] at hfin;rw[hx];have HF:Hid (bits .xor .u32 y (x/256)=((crcB c b).toNat:Int)):=hfin;have hj256:(j:Int)<256:=(by omega);clear hx hj' hm hbi hy hc hb hfin;go_wp2_with fail;exact⟨⟨i+1,by omega,by go_num,by rw[HT.out,HF.out],by trivial⟩,by simp only[RowKit.intOf];omega⟩
  ·have hie:i=n:=(by omega);subst hie;have HC:Hid (crcS s.data.toList=(~~~ c).toNat):=by
    show _=_;unfold crcS;rw[<- hc,<- HN.out,List.take_length]
   subst hwr;clear hc;have hsg:¬IntKind.u32.signed=true:=(by decide);have HNO:Hid (bits .xor .u32 IntKind.u32.max (c.toNat:Int)=((~~~ c).toNat:Int)):=j8z c;go_wp2_with fail;go_ret;exact⟨by rw[HC.out,HNO.out];rfl,HKW.out⟩
theorem j8w (c:BitVec 32)(h:c.toNat%2=1):bits .xor .u32 ((c.toNat:Int)/2) 3988292384=((crcF c).toNat:Int):=by
 have hc:=c.isLt;have h0:c.getLsbD 0=true:=by rw[BitVec.getLsbD,Nat.testBit_zero,h];rfl
 unfold crcF;rw[h0,if_pos rfl,BitVec.toNat_xor,BitVec.toNat_ushiftRight,Nat.shiftRight_eq_div_pow];have:=Z9 (c.toNat/2) 3988292384 (by omega) (by decide)
 simpa using this
theorem j8v (c:BitVec 32)(h:c.toNat%2=0):(c.toNat:Int)/2=((crcF c).toNat:Int):=by
 have h0:c.getLsbD 0=false:=by rw[BitVec.getLsbD,Nat.testBit_zero,h];rfl
 unfold crcF;rw[h0,if_neg Bool.false_ne_true,BitVec.xor_zero,BitVec.toNat_ushiftRight,Nat.shiftRight_eq_div_pow];omega
theorem j8y (l:List UInt8)(c:BitVec 32)(i:Nat)(x:UInt8)(h:l[i]? = some x):crcL c (l.take (i+1))=crcB (crcL c (l.take i)) x:=by
 rw[List.take_add_one,h,Option.toList_some,j3o]
 rfl
theorem jFO (c:BitVec 32)(x:UInt8):bits .xor .u32 (c.toNat:Int) (x.toNat:Int)=((c ^^^ BitVec.ofNat 32 x.toNat).toNat:Int):=by
 have hc:=c.isLt;have hx:=x.toNat_lt;rw[Z9 _ _ (by omega) (by omega),BitVec.toNat_xor,BitVec.toNat_ofNat,Nat.mod_eq_of_lt (a:=x.toNat) (by omega)]
theorem jDc (n:Nat)(hn:n<256)(w:World):(convert 5 86 (.int .u8 n)).run Tryz.prog w=.ok (.int .u32 n) w:=by
 have e:(n:Int)%4294967296=n:=by omega
 simp[go_sem,convert,run_underlying Tryz.underlying86,run_underlying Tryz.underlying5,IntKind.wrap,IntKind.signed,e]
theorem j2x (b o n cap:Nat)(l:List UInt8)(hn:l.length=n)(hm:n<=9223372036854775806)(w:World)(hc:∀j x,l[j]? = some x->w.cell? ⟨b,o+j,none⟩=some (.int .u8 (UInt8.toNat x))):
 Calls Tryz.prog 38 #[.slice (some ⟨b,o,none⟩) n cap] w fun e w'=>e=.returned (.int .u32 (crcS l:Nat))/\w'=w:=by
 have HC:Hid (∀j x,l[j]? = some x->w.cell? ⟨b,o+j,none⟩=some (.int .u8 (UInt8.toNat x))):=hc;have HN:Hid (l.length=n):=hn;have hm':(n:Int)<=9223372036854775806:=by omega
 have HE:Hid (bits .xor .u32 ((crcL (~~~ 0#32) l).toNat:Int) 4294967295=((crcS l:Nat):Int)):=by
  have h1:=(crcL (~~~ 0#32) l).isLt;have:=Z9 (crcL (~~~ 0#32) l).toNat 4294967295 h1 (by decide);show _=_;refine this.trans ?_;unfold crcS;have e2:(crcL (~~~ 0#32) l ^^^ BitVec.allOnes 32).toNat=(~~~ crcL (~~~ 0#32) l).toNat:=by rw[BitVec.xor_allOnes]
  rw[<- e2,BitVec.toNat_xor]
  rfl
 obtain⟨z0,hz0⟩:∃z0,~~~ 0#32=z0:=⟨_,rfl⟩;rw[hz0] at HE;have HZ0:Hid (((z0.toNat:Nat):Int)=4294967295):=by show _=_;rw[<- hz0];rfl
 clear hc hn hm hz0;go_enter Tryz.func38,Tryz.ntmps38;go_wp2_with fail;go_loopw[3,4] (fun s3 s4 wr=>∃i:Nat,i<=n/\s4=.int .i64 i/\s3=.int .u32 ((crcL (z0) (l.take i)).toNat:Nat)/\wr=w) (fun _ s4 _=>((n:Int)-RowKit.intOf s4).toNat)
 case atStart=>exact⟨0,Nat.zero_le _,by simp,by rw[List.take_zero,<- HZ0.out];rfl,rfl⟩
 case round=>
  obtain⟨i,hi,rfl,rfl,hw⟩:=hrel;replace hw:=hw.symm;subst hw;by_cases hlt:i<n
  ·have hlt':(i:Int)<(n:Int):=(by omega);obtain⟨x,hx⟩:∃x,l[i]? = some x:=⟨_,List.getElem?_eq_getElem (by rw[HN.out];exact hlt)⟩;have hcl:=HC.out i x hx;have hcv:=jDc x.toNat x.toNat_lt;obtain⟨c,hcc⟩:∃c,crcL (z0) (l.take i)=c:=⟨_,rfl⟩;have HS:Hid (crcL (z0) (l.take (i+1))=crcN 8 (c ^^^ BitVec.ofNat 32 x.toNat)):=(by show _=_;rw[j8y l _ i x hx,hcc];rfl);have hxb:=jFO c x;rw[hcc];have HLT:Hid (i<n):=hlt;clear hx hcc hlt hi;go_wp2_with fail;clear hcl hcv;obtain⟨c1,hc1⟩:∃c1,c ^^^ BitVec.ofNat 32 x.toNat=c1:=⟨_,rfl⟩;have HXN:Hid (c.toNat ^^^ x.toNat=c1.toNat):=(by show _=_;rw[<- hc1,BitVec.toNat_xor,BitVec.toNat_ofNat,Nat.mod_eq_of_lt (a:=x.toNat) (by have:=x.toNat_lt;omega)]);rw[hc1] at HS hxb;go_loopw[3,5] (fun s3 s5 wr=>∃k:Nat,k<=8/\s5=.int .i64 k/\s3=.int .u32 ((crcN k c1).toNat:Nat)/\wr=w) (fun _ s5 _=>(8-RowKit.intOf s5).toNat)
   case atStart=>exact⟨0,Nat.zero_le _,by simp,by first|(rw[hxb];rfl)|(rw[HXN.out];rfl),rfl⟩
   case round=>
    clear hxb hc1;obtain⟨k,hk,rfl,rfl,hw⟩:=hrel;replace hw:=hw.symm;subst hw;by_cases hk8:k<8
    ·have hk8':(k:Int)<8:=(by omega);have HK8:Hid (k<8):=hk8;have HST:Hid (crcN (k+1) c1=crcF (crcN k c1)):=j20 k c1;obtain⟨c2,hc2⟩:∃c2,crcN k c1=c2:=⟨_,rfl⟩;rw[hc2] at HST ⊢;have HO:Hid (c2.toNat%2=1->bits .xor .u32 ((c2.toNat:Int)/2) 3988292384=((crcF c2).toNat:Int)):=j8w c2;have HV:Hid (c2.toNat%2=0->(c2.toNat:Int)/2=((crcF c2).toNat:Int)):=j8v c2;have HY:Hid (c2.toNat<4294967296):=c2.isLt;obtain⟨y,hy⟩:∃y,c2.toNat=y:=⟨_,rfl⟩;rw[hy] at HO HV HY ⊢;have hwy:IntKind.u32.wrap ((y:Int)/2)=(y:Int)/2:=(by have:=HY.out;rw[IntKind.wrap_u32];omega);clear hk hk8 hc2 hy;rcases Nat.mod_two_eq_zero_or_one y with q|q
     ·have hq:((y:Int)%2==1)=false:=(by simp;omega);have HR:Hid ((y:Int)/2=((crcN (k+1) c1).toNat:Int)):=(by show _=_;rw[HST.out];exact HV.out q);clear q HO HV HST HY;go_wp2_with fail;go_roundw
      case rel=>exact⟨k+1,by have:=HK8.out;omega,by go_num,by rw[HR.out],by trivial⟩
      case measure=>simp only[RowKit.intOf];have:=HK8.out;omega
     ·have hq:((y:Int)%2==1)=true:=(by simp;omega);have HR:Hid (bits .xor .u32 ((y:Int)/2) 3988292384=((crcN (k+1) c1).toNat:Int)):=(by show _=_;rw[HST.out];exact HO.out q);clear q HO HV HST HY;go_wp2_with fail;go_roundw
      case rel=>exact⟨k+1,by have:=HK8.out;omega,by go_num,by rw[HR.out],by trivial⟩
      case measure=>simp only[RowKit.intOf];have:=HK8.out;omega
    ·have hke:k=8:=(by omega);subst hke;clear hk hk8;go_wp2_with fail;go_roundw
     case rel=>exact⟨i+1,by have:=HLT.out;omega,by go_num,by rw[HS.out],by trivial⟩
     case measure=>simp only[RowKit.intOf];have:=HLT.out;omega
  ·have hie:i=n:=(by omega);subst hie;have HT:Hid (l.take i=l):=(by show _=_;rw[<- HN.out,List.take_length]);rw[HT.out];clear hi hlt;go_wp2_with fail;go_ret;exact⟨by rw[HE.out];rfl,rfl⟩
end Go.Proofs.YtnceajanlnnfoaaGreatDoor
