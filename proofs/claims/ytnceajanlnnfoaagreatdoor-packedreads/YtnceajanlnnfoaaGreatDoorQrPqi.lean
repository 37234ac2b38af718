/-Packed: the document's Unpack (quadrilleref24). -/
import Derived.Test.YtnceajanlnnfoaaGreatDoorQrPpe
import Derived.Test.YtnceajanlnnfoaaGreatDoorQrPln
set_option maxRecDepth 40000
set_option maxHeartbeats 32000000
namespace Go.Proofs.YtnceajanlnnfoaaGreatDoor
open Go.RowKit Go.Maps Go.Sort Go.Lib Go.Shelf
theorem j8I (l:List UInt8)(i j:Nat):(ByteArray.mk l.toArray).extract i j=⟨((l.take j).drop i).toArray⟩:=by
 have h:((ByteArray.mk l.toArray).extract i j).data=((l.take j).drop i).toArray:=by
  rw[ByteArray.data_extract];simp[List.extract_eq_take_drop,List.drop_take]
 exact congrArg ByteArray.mk h
theorem jEJ (l:List UInt8)(hl:l.length<=9223372036854775806)(tb:Nat)(w:World)(ht:tb<w.heap.size):∃v W,(convert 9 70 (.string ⟨l.toArray⟩)).run Tryz.prog w=.ok v W/\Kp w W Nul/\∀wz,Kp W wz (fun i=>i=tb)->Calls Tryz.prog 38 #[v] wz fun e w'=>e=.returned (.int .u32 (crcS l:Nat))/\w'=wz:=by
 have hs:(ByteArray.mk l.toArray).size=l.length:=by show l.toArray.size=_;rw[List.size_toArray]
 have hcv:=run_bytes_of_string (P:=Tryz.prog) w 9 70 5 ⟨l.toArray⟩ Tryz.underlying9 Tryz.underlying70 Tryz.underlying5;rw[hs] at hcv;obtain⟨cap,hcap⟩:∃cap,grownCap w l.length 0 5=cap:=⟨_,rfl⟩;rw[hcap] at hcv;obtain⟨row,hrow⟩:∃row,bytesRow ⟨l.toArray⟩ cap=row:=⟨_,rfl⟩;rw[hrow] at hcv;have hcell:∀j x,l[j]? = some x->row[j]? = some (Value.int .u8 (UInt8.toNat x)):=fun j x hx=>by
  rw[<- hrow];unfold bytesRow;have hj:=(List.getElem?_eq_some_iff.1 hx).1;rw[Array.getElem?_append_left (by simpa using hj)];simp[hx]
 obtain⟨W1,hW1⟩:∃W1,w.drew.alloc (.cells row 5 (row.size,row.size+1))=W1:=⟨_,rfl⟩;rw[hW1] at hcv;have k1:Kp w W1 Nul:=by rw[<- hW1];exact((Kp.refl w Nul).drew).alloc _
 have hb1:W1.heap[w.heap.size]? = some (.cells row 5 (row.size,row.size+1)):=by rw[<- hW1];exact World.alloc_heap_new w.drew _
 refine⟨_,W1,hcv,k1,fun wz k=>j2x w.heap.size 0 l.length cap l rfl hl wz (fun j x hx=>?_)⟩;have hz:wz.heap[w.heap.size]? = some (.cells row 5 (row.size,row.size+1)):=(k.block _ (Array.getElem?_eq_some_iff.1 hb1).1 (fun e=>by have e':w.heap.size=tb:=e;omega)).trans hb1;rw[Nat.zero_add,cell_of_row wz w.heap.size j row 5 (row.size,row.size+1) hz];exact hcell j x hx
structure MdS (w wz:World) (rd r lb:Nat) (b:List UInt8) (s:Sd) (la:Int×Int) (v:Value) (ys:List (Cc×Value)):Prop where
 rs:RS wz rd b s
 dg:DG wz (lb+1) r v ys
 la:Blk wz lb [.int .i64 la.1,.int .i64 la.2] 57
 kp:Kp w wz Nul
theorem MdS.nul {w wz w1:World}{rd r lb:Nat}{b:List UInt8}{s:Sd}{la:Int×Int}{v:Value}{ys:List (Cc×Value)}(h:MdS w wz rd r lb b s la v ys)(k:Kp wz w1 Nul):MdS w w1 rd r lb b s la v ys:=
 ⟨h.rs.kp k (fun x=>x),h.dg.kp k,h.la.kp k (fun x=>x),h.kp.trans k⟩
theorem MdS.read {w wz w1:World}{rd r lb:Nat}{b:List UInt8}{s s1:Sd}{la:Int×Int}{v:Value}{ys:List (Cc×Value)}(h:MdS w wz rd r lb b s la v ys)(hO:w.heap.size<=rd/\rd<r/\r<lb)(k:Kp wz w1 (fun i=>i=rd))(hr:RS w1 rd b s1):MdS w w1 rd r lb b s1 la v ys:=
 ⟨hr,h.dg.far h.rs.blk (by simp) k (by omega) (by omega),h.la.kp k (fun e=>by have e':lb=rd:=e;omega),h.kp.trans' k (fun i hi e=>by have e':i=rd:=e;omega)⟩
structure UnS (w wr:World) (rd r lb:Nat) (b:List UInt8) (K:List Cc) (s:Sd) (la:Int×Int) (i:Nat) (v:Value) (ys:List (Cc×Value)):Prop where
 md:MdS w wr rd r lb b s la v ys
 ui:UI b K s la i
 ks:ys.map (·.1)=K
structure CtS (w wz:World) (rd r lb ab cb:Nat) (b:List UInt8) (s:Sd) (la:Int×Int) (v:Value) (ys:List (Cc×Value)) (c q:Int) (a:Ct) (sl:Value):Prop where
 md:MdS w wz rd r lb b s la v ys
 ab:Blk wz ab [.int .i64 c,.int .i64 q] 57
 cb:Blk wz cb (a.cells sl) 66
 inn:NdIn wz (fun _=>True) sl a.t
theorem MdS.store {w wz Y:World}{rd r lb:Nat}{b:List UInt8}{s:Sd}{la lc:Int×Int}{v:Value}{ys:List (Cc×Value)}(h:MdS w wz rd r lb b s la v ys)(hO:w.heap.size<=rd/\rd<r/\r<lb)(k:Kp wz Y (fun i=>i=lb))(hb:Blk Y lb [.int .i64 lc.1,.int .i64 lc.2] 57):MdS w Y rd r lb b s lc v ys:=
 ⟨h.rs.kp k (fun e=>by have e':rd=lb:=e;omega),h.dg.far h.la (by simp) k (by omega) (by omega),hb,h.kp.trans' k (fun i hi e=>by have e':i=lb:=e;omega)⟩
theorem MdS.flag {w wz:World}{rd r lb:Nat}{b:List UInt8}{s:Sd}{la:Int×Int}{v:Value}{ys:List (Cc×Value)}(h:MdS w wz rd r lb b s la v ys)(hO:w.heap.size<=rd/\rd<r/\r<lb):MdS w (wz.setCell ⟨rd,2,none⟩ (.bool true)) rd r lb b (s.1,true) la v ys:=
 h.read hO ((Kp.refl wz (fun i=>i=rd)).setCell _ _ (.inr rfl)) ⟨h.rs.blk.set 2 (.bool true),h.rs.le,h.rs.mx⟩
theorem MdS.put {w wz w1:World}{rd r lb:Nat}{b:List UInt8}{s:Sd}{la:Int×Int}{v v':Value}{ys ys':List (Cc×Value)}(h:MdS w wz rd r lb b s la v ys)(hO:w.heap.size<=rd/\rd<r/\r<lb)(k:Kp wz w1 (fun i=>i=r))(hd:DG w1 (lb+1) r v' ys'):MdS w w1 rd r lb b s la v' ys':=
 ⟨h.rs.kp k (fun e=>by have e':rd=r:=e;omega),hd,h.la.kp k (fun e=>by have e':lb=r:=e;omega),h.kp.trans' k (fun i hi e=>by have e':i=r:=e;omega)⟩
theorem CtS.call {w wz:World}{rd r lb ab cb:Nat}{b:List UInt8}{s:Sd}{la:Int×Int}{v:Value}{ys:List (Cc×Value)}{c q:Int}{a:Ct}{sl:Value}{K:List Cc}{lo:Nat}(h:CtS w wz rd r lb ab cb b s la v ys c q a sl)(ks:ys.map (·.1)=K)(hs:D7 (K.map (·.1)))(ho:Ok17 K)(hp:F6 K (c,q) lo)(hsz:a.t.size<=4194304)(hok:a.t.ok)(htx:a.t.txt)(hvs:a.v.s.size<65536)(hx:a.v.x<18446744073709551616):
 Calls Tryz.prog 26 #[.pointer (some ⟨r,0,none⟩),.agg #[.int .i64 c,.int .i64 q],a.val sl] wz fun e w'=>∃v' ys',e=.returned (.int .i64 (rpE (gv a) K lo c q a:Nat))/\DG w' (lb+1) r v' ys'/\ys'.map (·.1)=rpK (gv a) K lo c q a/\Kp wz w' (fun i=>i=r):=by
 refine(jDH (lb+1) r v ys K c q a sl (gv a) wz h.md.dg ks (by have:=h.md.la.lt;omega) ho.len hs (fun wq kq=>jCp a sl (fun _=>True) wq hsz hok htx (by omega) (h.inn.kp kq (fun _ _ x=>x))) (fun hV wq kq=>(jCX a sl (fun _=>True) wq hx (j4V hV) hok (h.inn.kp kq (fun _ _ x=>x))).mono (by
  rintro e w' ⟨sl',fp,h1,h2,h3⟩;exact⟨sl',fp,h1,h2,Kp.of_below h3⟩)) h.inn.one).mono ?_
 rintro e w' ⟨lo',v',ys',h1,h2,h3,h4,h5⟩;have e1:=F6.uniq h1 hp;subst e1;exact⟨v',ys',h2,h3,h4,h5⟩
theorem j0w (c q:Int):([.int .i64 c,.int .i64 q]:List Value).toArray.all (·.oneCell')=true:=by simp[Value.oneCell']
theorem j8W (k:Int):([.int .i64 k,.int .i64 0,.float .f64 0,.string ⟨#[]⟩,.bool false,.int .i64 0,.int .i64 0,.int .i64 0,.float .f64 0,.string ⟨#[]⟩,.bool false,.int .i64 0,.int .i64 0,.int .i64 0,.bool false,.bool false,.int .i64 0,.int .i64 0,.bool false,.bool false,.slice none 0 0]:List Value).toArray.all (·.oneCell')=true:=Ct.one ⟨k,zVl,zNd⟩ rfl
theorem j8V {w:World}{cb:Nat}{k:Int}(h:Blk w cb [.int .i64 k,.int .i64 0,.float .f64 0,.string ⟨#[]⟩,.bool false,.int .i64 0,.int .i64 0,.int .i64 0,.float .f64 0,.string ⟨#[]⟩,.bool false,.int .i64 0,.int .i64 0,.int .i64 0,.bool false,.bool false,.int .i64 0,.int .i64 0,.bool false,.bool false,.slice none 0 0] 66):Blk w cb (Ct.cells ⟨k,zVl,zNd⟩ (.slice none 0 0)) 66:=h
theorem jDe (l:List UInt8)(w:World):
 Calls Tryz.prog 42 #[.string ⟨l.toArray⟩] w fun e w'=>RuP w (upR l) (upO l) e w':=by
 have hsz:((ByteArray.mk l.toArray).size:Int)=(l.length:Int):=by show ((l.toArray.size:Nat):Int)=_;rw[List.size_toArray]
 obtain⟨o,ho⟩:∃o,upO l=o:=⟨_,rfl⟩;obtain⟨er,her⟩:∃er,upR l=er:=⟨_,rfl⟩;have HO:Hid (upO l=o/\upR l=er):=⟨ho,her⟩;rw[ho,her];have HE:Hid (upE l=if 4194304<l.length then 2 else if l.take 4=D5 then if l.length<10 then 3 else if unle (laB l)=crcS (ahB l) then 0 else 51 else 50):=by show _=_;rfl
 have HNO:Hid (∀x:Nat,upE l=x->x≠0->o=none/\er=x):=fun x e hx=>by
  refine⟨?_,?_⟩
  ·rw[<- ho];unfold upO;rw[if_neg (by rw[e];exact hx)]
  ·rw[<- her];unfold upR;rw[if_neg (by rw[e];exact hx)];exact e
 clear ho her;by_cases h1:4194304<l.length
 ·have h1':(4194304:Int)<(l.length:Int):=by omega
  obtain⟨e1,e2⟩:=HNO.out 2 (by rw[HE.out,if_pos h1]) (by decide);subst e2;have HF:Hid (RuP w 2 o (.returned (.tuple #[.pointer none,.int .i64 2])) w):=RuP.fin e1 (Kp.refl _ _);clear e1 h1 HNO HE HO;go_enter Tryz.func42,Tryz.ntmps42;go_wp2_with fail;refine bodyPost_ret (results_tmp2 rfl _ _ _) rfl ?_;exact HF.out
 have h1':¬(4194304:Int)<(l.length:Int):=by omega
 have hx4:(ByteArray.mk l.toArray).extract 0 4=⟨(l.take 4).toArray⟩:=j01 l 4;by_cases h4:l.length<4
 ·have h4':(l.length:Int)<4:=by omega
  obtain⟨e1,e2⟩:=HNO.out 50 (by rw[HE.out,if_neg h1,if_neg (fun e=>by have:=congrArg List.length e;rw[List.length_take] at this;have h5:D5.length=4:=rfl;omega)]) (by decide);subst e2;have HF:Hid (RuP w 50 o (.returned (.tuple #[.pointer none,.int .i64 50])) w):=RuP.fin e1 (Kp.refl _ _);clear e1 h1 h4 HNO HE HO;go_enter Tryz.func42,Tryz.ntmps42;go_wp2_with fail;refine bodyPost_ret (results_tmp2 rfl _ _ _) rfl ?_;exact HF.out
 have h4':¬(l.length:Int)<4:=by omega
 have h4n:(4:Int)<=(l.length:Int):=by omega
 by_cases hm:l.take 4=D5
 rotate_left
 ·have hmk:(l.take 4==[81,68,82,49])=false:=beq_eq_false_iff_ne.2 hm;obtain⟨e1,e2⟩:=HNO.out 50 (by rw[HE.out,if_neg h1,if_neg hm]) (by decide);subst e2;have HF:Hid (RuP w 50 o (.returned (.tuple #[.pointer none,.int .i64 50])) w):=RuP.fin e1 (Kp.refl _ _);clear e1 h1 h4 hm HNO HE HO;go_enter Tryz.func42,Tryz.ntmps42;go_wp2_with fail;refine bodyPost_ret (results_tmp2 rfl _ _ _) rfl ?_;exact HF.out
 have hmk:(l.take 4==[81,68,82,49])=true:=beq_iff_eq.2 hm;by_cases h2:l.length<10
 ·have h2':(l.length:Int)<10:=by omega
  obtain⟨e1,e2⟩:=HNO.out 3 (by rw[HE.out,if_neg h1,if_pos hm,if_pos h2]) (by decide);subst e2;have HF:Hid (RuP w 3 o (.returned (.tuple #[.pointer none,.int .i64 3])) w):=RuP.fin e1 (Kp.refl _ _);clear e1 h1 h2 h4 hm HNO HE HO;go_enter Tryz.func42,Tryz.ntmps42;go_wp2_with fail;refine bodyPost_ret (results_tmp2 rfl _ _ _) rfl ?_;exact HF.out
 have h2':¬(l.length:Int)<10:=by omega
 obtain⟨n,hn⟩:∃n,l.length=n+4:=⟨l.length-4,by omega⟩;have hE1:(ByteArray.mk l.toArray).extract 0 n=⟨(ahB l).toArray⟩:=by rw[j01];unfold ahB;rw[hn,Nat.add_sub_cancel]
 have hE2:(ByteArray.mk l.toArray).extract n l.length=⟨(laB l).toArray⟩:=by rw[j0Q];unfold laB;rw[hn,Nat.add_sub_cancel]
 have hE3:(ByteArray.mk l.toArray).extract 4 n=⟨((ahB l).drop 4).toArray⟩:=by rw[j8I];unfold ahB;rw[hn,Nat.add_sub_cancel]
 have hla:(laB l).length=4:=j2L (by omega);have hah:(ahB l).length=n:=by unfold ahB;rw[List.length_take];omega
 obtain⟨b,hb⟩:∃b,(ahB l).drop 4=b:=⟨_,rfl⟩;have HB:Hid (b=(ahB l).drop 4/\b.length<=4194296):=⟨hb.symm,by rw[<- hb,List.length_drop,hah];omega⟩;rw[hb] at hE3;obtain⟨W1,hW1⟩:∃W1,w.alloc (.cells #[.string ⟨(laB l).toArray⟩,.int .i64 0,.bool false] 152)=W1:=⟨_,rfl⟩;have HW1:Hid (w.alloc (.cells #[.string ⟨(laB l).toArray⟩,.int .i64 0,.bool false] 152)=W1):=hW1;have HK1:Hid (Kp w W1 Nul):=by show Kp _ _ _;rw[<- hW1];exact(Kp.refl w Nul).alloc _
 have HW1s:Hid (w.heap.size<W1.heap.size):=by show _<_;rw[<- hW1,World.size_alloc];omega
 have r1:RS W1 w.heap.size (laB l) (0,false):=⟨by rw[<- hW1];exact Blk.new w _ _,Nat.zero_le _,by omega⟩;have hrn:rNum 4 (laB l)=some (unle (laB l),[]):=by unfold rNum;rw[if_pos (by omega),List.take_of_length_le (by omega),List.drop_eq_nil_of_le (by omega)]
 have HN:Hid (∀wq,Kp W1 wq Nul->Calls Tryz.prog 84 #[.pointer (some ⟨w.heap.size,0,none⟩),.int .i64 4] wq fun e w'=>e=.returned (.int .u64 (unle (laB l):Nat))/\Kp wq w' (fun i=>i=w.heap.size)):=fun wq k=>(j1R w.heap.size (laB l) 4 (0,false) wq (by decide) (r1.kp k (fun x=>x))).mono fun e w' h=>by
  have e1:(dN (laB l) 4 (0,false)).1=unle (laB l):=(I6 (l:=laB l) ⟨rfl,Nat.zero_le _,rfl⟩ hrn).1;rw[e1] at h;exact⟨h.1,h.2.2⟩
 have HSC:Hid (∀wq,w.heap.size<wq.heap.size->∃v W,(convert 9 70 (.string ⟨(ahB l).toArray⟩)).run Tryz.prog wq=.ok v W/\Kp wq W Nul/\∀wz,Kp W wz (fun i=>i=w.heap.size)->Calls Tryz.prog 38 #[v] wz fun e w'=>e=.returned (.int .u32 (crcS (ahB l):Nat))/\w'=wz):=fun wq hq=>jEJ (ahB l) (by omega) w.heap.size wq hq
 have hcr:=U4 (ahB l);have HE2:Hid (upE l=if unle (laB l)=crcS (ahB l) then 0 else 51):=by show _=_;rw[HE.out,if_neg h1,if_pos hm,if_neg h2]
 generalize unle (laB l)=u at *;generalize crcS (ahB l)=cs at *;have hcv:=j0o cs hcr;have hw1:wrap64 ((l.length:Int)-4)=(n:Int):=by unfold wrap64;omega
 have hw2:IntKind.i64.wrap ((l.length:Int)-4)=(n:Int):=by rw[IntKind.wrap_i64];omega
 have hn1:¬(n:Int)<0:=by omega
 have hn2:(n:Int)<=(l.length:Int):=by omega
 have hn3:(4:Int)<=(n:Int):=by omega
 obtain⟨bn,hbn⟩:∃bn,((u:Int)!=(cs:Int))=bn:=⟨_,rfl⟩;have HBN:Hid (Value.bool ((u:Int)!=(cs:Int))=.bool bn):=by show _=_;rw[hbn]
 clear hn hcr hrn hla hah hW1 r1 h1 h2 h4 hm HE hb;go_enter Tryz.func42,Tryz.ntmps42;go_upto_region 9 with (first|(rw[HW1.out])|fail);go_cut[48] (fun x wz=>x=.bool bn/\Kp w wz Nul)
 case first=>
  refine wp_region_noPanic ?_;refine j3I (fun _:World=>True) (fun _=>false) (by kernel_rfl) trivial (fun _=>?_);refine I8 (i:=0) (v:=?_) (some 40) rfl rfl (by kernel_rfl) (fun _ _ _ h=>h) (Or.inl ⟨by rfl,?_⟩) trivial ?_;rotate_left
  ·intro w' hSw;clear hSw;go_simp;try with_reducible rfl
  simp only[Act.put,Sz0,Sz1,Sz2];refine I8 (i:=2) (v:=?_) (some 42) rfl rfl (by kernel_rfl) (fun _ _ _ h=>h) (Or.inl ⟨by rfl,?_⟩) trivial ?_;rotate_left
  ·intro w' hSw;clear hSw;go_simp;try with_reducible rfl
  simp only[Act.put,Sz0,Sz1,Sz2];refine I8 (i:=3) (v:=?_) (some 43) rfl rfl (by kernel_rfl) (fun _ _ _ h=>h) (Or.inl ⟨by rfl,?_⟩) trivial ?_;rotate_left
  ·intro w' hSw;clear hSw;go_simp;try with_reducible rfl
  simp only[Act.put,Sz0,Sz1,Sz2];refine I8 (i:=4) (v:=?_) (some 44) rfl rfl (by kernel_rfl) (fun _ _ _ h=>h) (Or.inl ⟨by rfl,?_⟩) trivial ?_;rotate_left
  ·intro w' hSw;clear hSw;go_simp;try with_reducible rfl
  simp only[Act.put,Sz0,Sz1,Sz2];refine j1m (i:=1) (j:=5) (by kernel_rfl) rfl rfl rfl rfl (fun K hK=>?_) (fun K hK=>?_)
  ·go_simp;refine(HN.out _ ((Kp.refl _ _).drew)).mono ?_;rintro e w2 ⟨rfl,k2⟩;refine hK.out _ _ (fun _=>trivial) ?_;clear hK K
   (try simp only[Act.put,Sz0,Sz1,Sz2])
   obtain⟨cv,W,hc,kc,HS⟩:=HSC.out w2 (by have h5:=HW1s.out;have h6:=k2.size;exact Nat.lt_of_lt_of_le h5 h6);have HKf:Hid (Kp w W Nul):=(HK1.out.trans' (((Kp.refl W1 (fun i=>i=w.heap.size)).drew).trans k2) (fun i hi e=>by have e':i=w.heap.size:=e;omega)).trans kc;have HSu:=HS W (Kp.refl _ _);clear kc HS k2;refine L8 (i:=5) (by kernel_rfl) rfl rfl (fun K hK=>?_);go_simp
   (try rw[hc])
   refine hK.out _ _ (fun _=>trivial) ?_;clear hK K
   (try simp only[Act.put,Sz0,Sz1,Sz2])
   refine L8 (i:=6) (by kernel_rfl) rfl rfl (fun K hK=>?_);go_simp;refine HSu.mono ?_;rintro e w4 ⟨rfl,hz⟩;replace hz:=hz.symm;subst hz;refine hK.out _ _ (fun _=>trivial) ?_;clear hK K
   (try simp only[Act.put,Sz0,Sz1,Sz2])
   refine I8 (i:=7) (v:=.int .u64 (cs:Int)) (some 47) rfl rfl (by kernel_rfl) (fun _ _ _ h=>h) (Or.inl ⟨by rfl,?_⟩) trivial ?_
   ·intro w' hSw;clear hSw;go_simp
   simp only[Act.put,Sz0,Sz1,Sz2];refine I8 (i:=8) (v:=.bool bn) (some 48) rfl rfl (by kernel_rfl) (fun _ _ _ h=>h) (Or.inl ⟨by rfl,?_⟩) trivial ?_
   ·intro w' hSw;clear hSw;go_simp;try exact HBN.out
   simp only[Act.put,Sz0,Sz1,Sz2];refine Z4 (by kernel_rfl) ?_;refine NoPanic.normal ?_;go_wp2_with fail;go_meet;exact⟨rfl,HKf.out⟩
  ·obtain⟨cv,W,hc,kc,HS⟩:=HSC.out W1.drew HW1s.out;have HKc:Hid (Kp W1 W Nul):=((Kp.refl W1 Nul).drew).trans kc;clear kc;go_simp
   (try rw[hc])
   refine hK.out _ _ (fun _=>trivial) ?_;clear hK K
   (try simp only[Act.put,Sz0,Sz1,Sz2])
   refine L8 (i:=1) (by kernel_rfl) rfl rfl (fun K hK=>?_);go_simp;refine(HN.out _ (HKc.out)).mono ?_;rintro e w2 ⟨rfl,k2⟩;refine hK.out _ _ (fun _=>trivial) ?_;clear hK K
   (try simp only[Act.put,Sz0,Sz1,Sz2])
   have HKf:Hid (Kp w w2 Nul):=(HK1.out.trans HKc.out).trans' k2 (fun i hi e=>by have e':i=w.heap.size:=e;omega);have HSu:=HS w2 k2;clear HS k2;refine L8 (i:=6) (by kernel_rfl) rfl rfl (fun K hK=>?_);go_simp;refine HSu.mono ?_;rintro e w4 ⟨rfl,hz⟩;replace hz:=hz.symm;subst hz;refine hK.out _ _ (fun _=>trivial) ?_;clear hK K
   (try simp only[Act.put,Sz0,Sz1,Sz2])
   refine I8 (i:=7) (v:=.int .u64 (cs:Int)) (some 47) rfl rfl (by kernel_rfl) (fun _ _ _ h=>h) (Or.inl ⟨by rfl,?_⟩) trivial ?_
   ·intro w' hSw;clear hSw;go_simp
   simp only[Act.put,Sz0,Sz1,Sz2];refine I8 (i:=8) (v:=.bool bn) (some 48) rfl rfl (by kernel_rfl) (fun _ _ _ h=>h) (Or.inl ⟨by rfl,?_⟩) trivial ?_
   ·intro w' hSw;clear hSw;go_simp;try exact HBN.out
   simp only[Act.put,Sz0,Sz1,Sz2];refine Z4 (by kernel_rfl) ?_;refine NoPanic.normal ?_;go_wp2_with fail;go_meet;exact⟨rfl,HKf.out⟩
 case rest=>
  obtain⟨rfl,hkc⟩:=hcut;have HKC:Hid (Kp w wc Nul):=hkc;clear hkc HN HSC HW1 HK1 HW1s HBN hE1 hE2 hcv;cases hbv:bn with
  | true=>
   subst hbv;have hne:¬u=cs:=(fun e=>by rw[e] at hbn;simp at hbn);obtain⟨e1,e2⟩:=HNO.out 51 (by rw[HE2.out,if_neg hne]) (by decide);subst e2;have HF:Hid (RuP w 51 o (.returned (.tuple #[.pointer none,.int .i64 51])) wc):=RuP.fin e1 HKC.out;clear e1 hne hbn HNO HE2 HO hE3;go_wp2_with fail;refine bodyPost_ret (results_tmp2 rfl _ _ _) rfl ?_;exact HF.out
  | false=>
   subst hbv;have he:u=cs:=by
    have h5:(u:Int)=(cs:Int):=(by simpa using hbn);omega
   have HE0:Hid (upE l=0):=(by show _=_;rw[HE2.out,if_pos he]);obtain⟨W3,hW3⟩:∃W3,((wc.alloc (.cells #[.string ⟨b.toArray⟩,.int .i64 0,.bool false] 152)).alloc (.cells #[.slice none 0 0] 54)).alloc (.cells #[.int .i64 0,.int .i64 0] 57)=W3:=⟨_,rfl⟩;have HW3:Hid (((wc.alloc (.cells #[.string ⟨b.toArray⟩,.int .i64 0,.bool false] 152)).alloc (.cells #[.slice none 0 0] 54)).alloc (.cells #[.int .i64 0,.int .i64 0] 57)=W3):=hW3;obtain⟨A,hA⟩:∃A,wc.heap.size=A:=⟨_,rfl⟩;have HO3:Hid (w.heap.size<=A/\A<A+1/\A+1<A+2):=⟨by rw[<- hA];exact HKC.out.size,by omega,by omega⟩;have HM0:Hid (MdS w W3 A (A+1) (A+2) b (0,false) (0,0) (.slice none 0 0) []):=by
    refine⟨⟨?_,Nat.zero_le _,by have:=HB.out.2;omega⟩,⟨?_,Pts.nil _ _ _⟩,?_,?_⟩
    ·rw[<- hW3,<- hA];exact((Blk.new wc _ _).alloc _).alloc _
    ·have h5:=Blk.new (wc.alloc (.cells #[.string ⟨b.toArray⟩,.int .i64 0,.bool false] 152)) [.slice none 0 0] 54;rw[World.size_alloc,hA] at h5;rw[<- hW3];exact h5.alloc _
    ·have h5:=Blk.new ((wc.alloc (.cells #[.string ⟨b.toArray⟩,.int .i64 0,.bool false] 152)).alloc (.cells #[.slice none 0 0] 54)) [.int .i64 0,.int .i64 0] 57;rw[World.size_alloc,World.size_alloc,hA] at h5;rw[<- hW3];exact h5
    ·rw[<- hW3];exact((HKC.out.alloc _).alloc _).alloc _
   have HS2:Hid (∀s wq,RS wq A b s->Calls Tryz.prog 85 #[.pointer (some ⟨A,0,none⟩),.int .i64 2] wq fun e w'=>e=.returned (.int .i64 ((dN b 2 s).1:Nat))/\RS w' A b (dN b 2 s).2/\Kp wq w' (fun i=>i=A)):=(fun s wq h=>V4 A b 2 s wq (by decide) h);have HS1:Hid (∀s wq,RS wq A b s->Calls Tryz.prog 85 #[.pointer (some ⟨A,0,none⟩),.int .i64 1] wq fun e w'=>e=.returned (.int .i64 ((dN b 1 s).1:Nat))/\RS w' A b (dN b 1 s).2/\Kp wq w' (fun i=>i=A)):=(fun s wq h=>V4 A b 1 s wq (by decide) h);obtain⟨m,hmm⟩:∃m,(dN b 2 (0,false)).1=m:=⟨_,rfl⟩;have HMn:Hid ((dN b 2 (0,false)).1=m/\m<65536):=⟨hmm,by rw[<- hmm];exact X5 b 2 _⟩;have HC0:Hid (Calls Tryz.prog 85 #[.pointer (some ⟨A,0,none⟩),.int .i64 2] W3 fun e w'=>e=.returned (.int .i64 (m:Nat))/\UnS w w' A (A+1) (A+2) b [] (dN b 2 (0,false)).2 (0,0) 0 (.slice none 0 0) []):=(HS2.out (0,false) W3 HM0.out.rs).mono fun e w' h=>by
    rw[hmm] at h;exact⟨h.1,HM0.out.read HO3.out h.2.2 h.2.1,UI.first b,rfl⟩
   clear hW3 hmm he hbn HE2 HNO HM0;have hA2:A+1+1=A+2:=rfl;go_upto_region 14 with (first|(refine I5 rfl 57 (.tmp 8) (.tmp 56) rfl _ _ _ _ _ (by first|rfl|simp) rfl rfl rfl F4 rfl ?_)|fail);rw[HW3.out];go_wp2_with fail;clear hA2;refine HC0.out.mono ?_;rintro e w4 ⟨rfl,hu0⟩;have HU0:Hid (UnS w w4 A (A+1) (A+2) b [] (dN b 2 (0,false)).2 (0,0) 0 (.slice none 0 0) []):=hu0;clear hu0 HC0 HW3 hE3 HKC hA;go_upto_block 0 with fail;go_cut[10,11,12,13,14,15] (fun _ _ _ _ _ _ wz=>∃(K:List Cc) (s:Sd) (la:Int×Int) (i:Nat) (v:Value) (ys:List (Cc×Value)),UnS w wz A (A+1) (A+2) b K s la i v ys/\(m<=i∨s.2=true))
   case first=>
    go_wp2_with fail;go_loopw[10] (fun x wr=>∃(i:Nat) (K:List Cc) (s:Sd) (la:Int×Int) (v:Value) (ys:List (Cc×Value)),i<=m/\x=.int .i64 i/\UnS w wr A (A+1) (A+2) b K s la i v ys) (fun x _=>m-(RowKit.intOf x).toNat)
    case atStart=>exact⟨0,[],_,(0,0),_,[],Nat.zero_le _,rfl,HU0.out⟩
    case round=>
     clear HU0;obtain⟨i,K,s,la,v,ys,hi,rfl,hun⟩:=hrel;have HUN:Hid (UnS w wr A (A+1) (A+2) b K s la i v ys):=hun;have c2:wr.cell? ⟨A,2,none⟩=some (.bool s.2):=hun.md.rs.blk.cell rfl;by_cases hlt:i<m
     ·have hlt':(i:Int)<(m:Int):=(by omega);have hi0:(0:Int)<=(i:Int):=(by omega);have hkb:(i:Int)+1<=9223372036854775807:=(by have:=HMn.out.2;omega);cases hb:s.2 with
      | true=>
       rw[hb] at c2;clear hun;go_wp2_with fail;go_meet;exact⟨K,s,la,i,v,ys,HUN.out,.inr hb⟩
      | false=>
       rw[hb] at c2;have HLT:Hid (i<m):=hlt;obtain⟨c,hc⟩:∃c,(dN b 2 s).1=c:=⟨_,rfl⟩;obtain⟨s1,hs1⟩:∃s1,(dN b 2 s).2=s1:=⟨_,rfl⟩;obtain⟨q,hq⟩:∃q,(dN b 2 s1).1=q:=⟨_,rfl⟩;obtain⟨s2,hs2⟩:∃s2,(dN b 2 s1).2=s2:=⟨_,rfl⟩;obtain⟨kn,hkn⟩:∃kn,(dN b 1 s2).1=kn:=⟨_,rfl⟩;obtain⟨xi,hxi⟩:∃xi:Int,(kn:Int)=xi:=⟨_,rfl⟩;have HXI:Hid ((kn:Int)=xi):=hxi;obtain⟨s3,hs3⟩:∃s3,(dN b 1 s2).2=s3:=⟨_,rfl⟩;obtain⟨a,ha⟩:∃a,(dCf b kn s3).1=a:=⟨_,rfl⟩;obtain⟨s4,hs4⟩:∃s4,(dCf b kn s3).2=s4:=⟨_,rfl⟩;have HD:Hid ((dN b 2 s).1=c/\(dN b 2 (dN b 2 s).2).1=q/\(dCt b (dN b 2 (dN b 2 s).2).2).1=a/\(dCt b (dN b 2 (dN b 2 s).2).2).2=s4/\(dCt b (dN b 2 (dN b 2 s).2).2).2.2=s4.2):=by
        have e4:(dCt b (dN b 2 (dN b 2 s).2).2).2=s4:=(by rw[hs1,hs2];unfold dCt;rw[hkn,hs3];exact hs4);refine⟨hc,by rw[hs1];exact hq,?_,e4,by rw[e4]⟩;rw[hs1,hs2];unfold dCt;rw[hkn,hs3];exact ha
       have HDC:Hid ((dCf b kn s3).1=a/\(dCf b kn s3).2=s4):=⟨ha,hs4⟩;have HDW:Hid (CW b s3 a s4):=(by show CW _ _ _ _;rw[<- ha,<- hs4];exact j3z b kn s3);have HC1:=HS2.out s wr HUN.out.md.rs;rw[hc,hs1] at HC1;have HC2:=HS2.out s1;rw[hq,hs2] at HC2;have HC3:=HS1.out s2;rw[hkn,hs3,hxi] at HC3;have HC1':Hid (Calls Tryz.prog 85 #[.pointer (some ⟨A,0,none⟩),.int .i64 2] wr fun e w'=>e=.returned (.int .i64 (c:Nat))/\RS w' A b s1/\Kp wr w' (fun i=>i=A)):=HC1;have HC2':Hid (∀wq,RS wq A b s1->Calls Tryz.prog 85 #[.pointer (some ⟨A,0,none⟩),.int .i64 2] wq fun e w'=>e=.returned (.int .i64 (q:Nat))/\RS w' A b s2/\Kp wq w' (fun i=>i=A)):=HC2;have HC3':Hid (∀wq,RS wq A b s2->Calls Tryz.prog 85 #[.pointer (some ⟨A,0,none⟩),.int .i64 1] wq fun e w'=>e=.returned (.int .i64 xi)/\RS w' A b s3/\Kp wq w' (fun i=>i=A)):=HC3;clear hc hs1 hq hs2 hkn hs3 ha hs4 HC1 HC2 HC3 hun hxi
       go_wp2_with fail;refine HC1'.out.mono ?_;rintro e w1 ⟨rfl,h1,k1⟩;have HM1:Hid (MdS w w1 A (A+1) (A+2) b s1 la v ys):=HUN.out.md.read HO3.out k1 h1;clear h1 k1 HC1' c2;go_wp2_with fail;refine(HC2'.out w1 HM1.out.rs).mono ?_;rintro e w2 ⟨rfl,h2,k2⟩;have HM2:Hid (MdS w w2 A (A+1) (A+2) b s2 la v ys):=HM1.out.read HO3.out k2 h2;obtain⟨ab,hab⟩:∃ab,w2.heap.size=ab:=⟨_,rfl⟩;obtain⟨W2,hW2⟩:∃W2,w2.alloc (.cells #[.int .i64 (c:Int),.int .i64 (q:Int)] 57)=W2:=⟨_,rfl⟩;have HW2:Hid (w2.alloc (.cells #[.int .i64 (c:Int),.int .i64 (q:Int)] 57)=W2):=hW2;have HMW:Hid (MdS w W2 A (A+1) (A+2) b s2 la v ys):=HM2.out.nul (by rw[<- hW2];exact(Kp.refl _ _).alloc _);have HAB:Hid (Blk W2 ab [.int .i64 (c:Int),.int .i64 (q:Int)] 57):=(by show Blk _ _ _ _;rw[<- hW2,<- hab];exact Blk.new w2 _ _);have HAA:Hid (A+2<ab):=by show _<_;rw[<- hab];exact HM2.out.la.lt
       clear h2 k2 HC2' HM1 hW2;go_wp2_with (first|(rw[HW2.out,hab])|(rw[HW2.out])|fail);refine(HC3'.out W2 HMW.out.rs).mono ?_;rintro e w3 ⟨rfl,h3,k3⟩;have HM3:Hid (MdS w w3 A (A+1) (A+2) b s3 la v ys):=HMW.out.read HO3.out k3 h3;have HAB3:Hid (Blk w3 ab [.int .i64 (c:Int),.int .i64 (q:Int)] 57):=HAB.out.kp k3 (fun e=>by have e':ab=A:=e;have:=HAA.out;omega);obtain⟨cb,hcb⟩:∃cb,w3.heap.size=cb:=⟨_,rfl⟩;obtain⟨Wz,hWz⟩:∃Wz,w3.alloc (.cells #[.int .i64 0,.int .i64 0,.float .f64 0,.string ⟨#[]⟩,.bool false,.int .i64 0,.int .i64 0,.int .i64 0,.float .f64 0,.string ⟨#[]⟩,.bool false,.int .i64 0,.int .i64 0,.int .i64 0,.bool false,.bool false,.int .i64 0,.int .i64 0,.bool false,.bool false,.slice none 0 0] 66)=Wz:=⟨_,rfl⟩;have HWz:Hid (w3.alloc (.cells #[.int .i64 0,.int .i64 0,.float .f64 0,.string ⟨#[]⟩,.bool false,.int .i64 0,.int .i64 0,.int .i64 0,.float .f64 0,.string ⟨#[]⟩,.bool false,.int .i64 0,.int .i64 0,.int .i64 0,.bool false,.bool false,.int .i64 0,.int .i64 0,.bool false,.bool false,.slice none 0 0] 66)=Wz):=hWz
       have HBz:Hid (Blk Wz cb [.int .i64 0,.int .i64 0,.float .f64 0,.string ⟨#[]⟩,.bool false,.int .i64 0,.int .i64 0,.int .i64 0,.float .f64 0,.string ⟨#[]⟩,.bool false,.int .i64 0,.int .i64 0,.int .i64 0,.bool false,.bool false,.int .i64 0,.int .i64 0,.bool false,.bool false,.slice none 0 0] 66):=(by show Blk _ _ _ _;rw[<- hWz,<- hcb];exact Blk.new w3 _ _);have HKz:Hid (Kp w3 Wz Nul):=(by show Kp _ _ _;rw[<- hWz];exact(Kp.refl _ _).alloc _);have HAC:Hid (A+2<ab/\ab<cb/\w3.heap.size=cb):=⟨HAA.out,by rw[<- hcb];exact HAB3.out.lt,hcb⟩;have HS3:Hid (s3.1<=b.length):=h3.le;clear h3 k3 HC3' HMW HAB HAA HM2 HW2 hab hWz;go_upto_region 21 with (first|(rw[HWz.out])|(refine G6 rfl 66 (.tmp 13) (.tmp 79) rfl cb [.int .i64 0,.int .i64 0,.float .f64 0,.string ⟨#[]⟩,.bool false,.int .i64 0,.int .i64 0,.int .i64 0,.float .f64 0,.string ⟨#[]⟩,.bool false,.int .i64 0,.int .i64 0,.int .i64 0,.bool false,.bool false,.int .i64 0,.int .i64 0,.bool false,.bool false,.slice none 0 0] [.int .i64 xi,.int .i64 0,.float .f64 0,.string ⟨#[]⟩,.bool false,.int .i64 0,.int .i64 0,.int .i64 0,.float .f64 0,.string ⟨#[]⟩,.bool false,.int .i64 0,.int .i64 0,.int .i64 0,.bool false,.bool false,.int .i64 0,.int .i64 0,.bool false,.bool false,.slice none 0 0] 66 HBz.out rfl rfl rfl E8 (j8W xi) ?_;intro W3 hb3 hk3)|fail)
       have HK3:Hid (Kp w3 W3 Nul):=HKz.out.trans' hk3 (fun i hi e=>by have e':i=cb:=e;have:=HAC.out;omega);have HCB:Hid (Blk W3 cb (Ct.cells ⟨xi,zVl,zNd⟩ (.slice none 0 0)) 66):=j8V hb3;have l0:W3.cell? ⟨cb,0,none⟩=some (.int .i64 xi):=HCB.out.cell rfl;have HR3:Hid (RS W3 A b s3):=HM3.out.rs.kp HK3.out (fun x=>x);clear hb3 hk3 HWz HBz HKz;go_upto_block 2 with fail;go_cut[] (fun wz=>∃sl,CtS w wz A (A+1) (A+2) ab cb b s4 la v ys c q a sl)
       case first=>
        have hkc:kn=1∨kn=2∨(¬kn=1/\¬kn=2):=(by omega);rcases hkc with hk1|hk1|⟨n1,n2⟩
        ·obtain rfl:xi=1:=(by have:=HXI.out;omega);subst hk1;have HV:Hid (Calls Tryz.prog 86 #[.pointer (some ⟨A,0,none⟩)] W3 fun e w'=>e=.returned (dVl b s3).1.val/\RS w' A b (dVl b s3).2/\Kp W3 w' (fun i=>i=A)):=jDj A b s3 W3 HR3.out;obtain⟨vv,hvv⟩:∃vv,(dVl b s3).1=vv:=⟨_,rfl⟩;have HAV:Hid (a=⟨1,vv,zNd⟩/\(dVl b s3).2=s4):=by
          have h:=HDC.out;unfold dCf at h;rw[if_pos rfl,hvv] at h;exact⟨h.1.symm,h.2⟩
         rw[hvv,HAV.out.2] at HV;clear hvv HDC;go_wp2_with fail;refine HV.out.mono ?_;rintro e w5 ⟨rfl,h5,k5⟩;have HCB5:Hid (Blk w5 cb ([.int .i64 1]++zVl.cells++zHd.cells (.slice none 0 0)) 66):=HCB.out.kp k5 (fun e=>by have e':cb=A:=e;have:=HAC.out;omega);have H5:Hid (RS w5 A b s4/\Kp W3 w5 (fun i=>i=A)):=⟨h5,k5⟩;clear h5 k5 HV l0;go_wp2_with (first|(refine j0t rfl 59 (.tmp 89) (.tmp 88) rfl cb 1 [.int .i64 1] zVl.cells (zHd.cells (.slice none 0 0)) vv.cells 66 HCB5.out rfl rfl rfl rfl E7 (Vl.one24 vv) ?_;intro Y hbY hkY)|fail);go_meet;have kY:Kp w3 Y (fun i=>i=A):=(HK3.out.of_nul.trans H5.out.2).trans' hkY (fun i hi e=>by have e':i=cb:=e;have:=HAC.out;omega);rw[HAV.out.1];exact⟨.slice none 0 0,HM3.out.read HO3.out kY (H5.out.1.kp hkY (fun e=>by have e':A=cb:=e;have:=HAC.out;omega)),HAB3.out.kp kY (fun e=>by have e':ab=A:=e;have:=HAC.out;omega),hbY,(Own.nil Y 0 zHd).isIn.mono (fun _ _ _=>⟨rfl,trivial⟩)⟩
        ·obtain rfl:xi=2:=(by have:=HXI.out;omega);subst hk1;have HV:Hid (Calls Tryz.prog 87 #[.pointer (some ⟨A,0,none⟩),.int .i64 1] W3 fun e w'=>∃sl fp,e=.returned ((dNd b 32 s3).1.hd.val sl)/\Own w' W3.heap.size sl (dNd b 32 s3).1 fp/\RS w' A b (dNd b 32 s3).2/\Kp W3 w' (fun i=>i=A)):=j5c A b 32 s3 W3 (by decide) HR3.out;obtain⟨t,htt⟩:∃t,(dNd b 32 s3).1=t:=⟨_,rfl⟩;have HAV:Hid (a=⟨2,zVl,t⟩/\(dNd b 32 s3).2=s4):=by
          have h:=HDC.out;unfold dCf at h;rw[if_neg (by decide),if_pos rfl,htt] at h;exact⟨h.1.symm,h.2⟩
         rw[htt,HAV.out.2] at HV;clear htt HDC;go_wp2_with fail;refine HV.out.mono ?_;rintro e w5 ⟨sl,fp,rfl,ho5,h5,k5⟩;have HCB5:Hid (Blk w5 cb ([.int .i64 2,.int .i64 0,.float .f64 0,.string ⟨#[]⟩,.bool false,.int .i64 0]++zHd.cells (.slice none 0 0)++[]) 66):=HCB.out.kp k5 (fun e=>by have e':cb=A:=e;have:=HAC.out;omega);have H5:Hid (RS w5 A b s4/\Kp W3 w5 (fun i=>i=A)/\Own w5 W3.heap.size sl t fp):=⟨h5,k5,ho5⟩;have HO1:Hid (sl.oneCell'=true):=ho5.own.one;clear h5 k5 HV ho5 l0;go_wp2_with (first|(refine j0t rfl 64 (.tmp 94) (.tmp 93) rfl cb 6 [.int .i64 2,.int .i64 0,.float .f64 0,.string ⟨#[]⟩,.bool false,.int .i64 0] (zHd.cells (.slice none 0 0)) [] (t.hd.cells sl) 66 HCB5.out rfl rfl rfl rfl z6 (t.hd.one HO1.out) ?_;intro Y hbY hkY)|fail);go_meet;have kY:Kp w3 Y (fun i=>i=A):=(HK3.out.of_nul.trans H5.out.2.1).trans' hkY (fun i hi e=>by have e':i=cb:=e;have:=HAC.out;omega)
         rw[HAV.out.1];exact⟨sl,HM3.out.read HO3.out kY (H5.out.1.kp hkY (fun e=>by have e':A=cb:=e;have:=HAC.out;omega)),HAB3.out.kp kY (fun e=>by have e':ab=A:=e;have:=HAC.out;omega),hbY,(H5.out.2.2.kp hkY (fun x hx e=>by have e':x=cb:=e;have h8:=(H5.out.2.2.new x hx).1;have h9:=HCB.out.lt;omega)).isIn.mono (fun _ _ _=>⟨rfl,trivial⟩)⟩
        ·have m1:¬xi=1:=(by have:=HXI.out;omega);have m2:¬xi=2:=(by have:=HXI.out;omega);have HAV:Hid (a=⟨xi,zVl,zNd⟩/\(s3.1,true)=s4):=by
          have h:=HDC.out;unfold dCf at h;rw[if_neg n1,if_neg n2,HXI.out] at h;exact⟨h.1.symm,h.2⟩
         have c2:W3.cell? ⟨A,2,none⟩=some (.bool s3.2):=HR3.out.blk.cell rfl;have f2:W3.frozen? ⟨A,2,none⟩=false:=HR3.out.blk.froz 2;have m3:(xi==1)=false:=beq_eq_false_iff_ne.2 m1;have m4:(xi==2)=false:=beq_eq_false_iff_ne.2 m2;clear HDC n1 n2 hw1 hw2 hsz hx4 hmk h4n hn2 hn3 h1' h4' h2' hn1;go_wp2_with fail;go_meet;rw[HAV.out.1,<- HAV.out.2];exact⟨.slice none 0 0,(HM3.out.nul HK3.out).flag HO3.out,(HAB3.out.kp HK3.out (fun x=>x)).other _ _ (fun e=>by have e':ab=A:=e;have:=HAC.out;omega),HCB.out.other _ _ (fun e=>by have e':cb=A:=e;have:=HAC.out;omega),(Own.nil _ 0 zHd).isIn.mono (fun _ _ _=>⟨rfl,trivial⟩)⟩
       case rest=>
        clear HK3 HCB l0 HR3 HM3 HAB3 HDC hcb;obtain⟨sl,hct⟩:=hcut;have HCT:Hid (CtS w wc A (A+1) (A+2) ab cb b s4 la v ys c q a sl):=hct;have c2:wc.cell? ⟨A,2,none⟩=some (.bool s4.2):=hct.md.rs.blk.cell rfl;have f2:wc.frozen? ⟨A,2,none⟩=false:=hct.md.rs.blk.froz 2;clear hct;obtain⟨od,hod⟩:∃od,ordC la.1 la.2 (c:Int) (q:Int)=od:=⟨_,rfl⟩;have HOD:Hid (ltOf cfA la ((c:Int),(q:Int))=decide (od<0)):=(by show _=_;rw[<- hod];rfl);have HOr:Hid (∀wq,Calls Tryz.prog 88 #[.agg #[.int .i64 la.1,.int .i64 la.2],.agg #[.int .i64 (c:Int),.int .i64 (q:Int)]] wq fun e w'=>e=.returned (.int .i64 od)/\Kp wq w' Nul):=(fun wq=>(j5K la.1 la.2 (c:Int) (q:Int) wq).mono fun e w' h=>⟨by rw[hod] at h;exact h.1,Kp.of_gr h.2⟩);clear hod;cases hb4:s4.2 with
        | true=>
         rw[hb4] at c2;have HUI:Hid (∀t,UI b K t ((c:Int),(q:Int)) (i+1)):=(fun t=>HUN.out.ui.bad (by rw[HMn.out.1];exact HLT.out) (by have:=HD.out.2.2.2.2;rw[hb4] at this;exact this) t _);have HS4:Hid (s4.2=true):=hb4;clear hb4 HD;have HRa:Hid (wc.rangeAt ab 0 [.int .i64 (c:Int),.int .i64 (q:Int)]):=HCT.out.ab.all;have HRl:Hid (wc.rangeAt (A+2) 0 [.int .i64 la.1,.int .i64 la.2]):=HCT.out.md.la.all;go_wp2_with (first
          | (refine wpList_load_mid rfl 57 (.tmp 12) rfl ab 0 rfl [.int .i64 (c:Int),.int .i64 (q:Int)] _ HRa.out Tryz.underlying57 rfl F4 ?_)
          | (refine wpList_load_mid rfl 57 (.tmp 8) rfl (A+2) 0 rfl [.int .i64 la.1,.int .i64 la.2] _ HRl.out Tryz.underlying57 rfl F4 ?_)
          | fail)
         refine(HOr.out wc).mono ?_;rintro e w6 ⟨rfl,k6⟩;have HM6:Hid (MdS w w6 A (A+1) (A+2) b s4 la v ys):=HCT.out.md.nul k6;have HA6:Hid (Blk w6 ab [.int .i64 (c:Int),.int .i64 (q:Int)] 57):=HCT.out.ab.kp k6 (fun x=>x);have HR6:Hid (w6.rangeAt ab 0 [.int .i64 (c:Int),.int .i64 (q:Int)]):=HA6.out.all;have HL6:Hid (Blk w6 (A+2) [.int .i64 la.1,.int .i64 la.2] 57):=HM6.out.la;have c6:w6.cell? ⟨A,2,none⟩=some (.bool s4.2):=HM6.out.rs.blk.cell rfl;have f6:w6.frozen? ⟨A,2,none⟩=false:=HM6.out.rs.blk.froz 2;clear k6 HRa HRl c2 f2 HCT;by_cases hod:od<0
         ·go_wp2_with (first
           | (refine wpList_load_mid rfl 57 (.tmp 12) rfl ab 0 rfl [.int .i64 (c:Int),.int .i64 (q:Int)] _ HR6.out Tryz.underlying57 rfl F4 ?_)
           | (refine G6 rfl 57 (.tmp 8) (.tmp 117) rfl (A+2) [.int .i64 la.1,.int .i64 la.2] [.int .i64 (c:Int),.int .i64 (q:Int)] 57 HL6.out rfl rfl rfl F4 (j0w (c:Int) (q:Int)) ?_;intro Y hbY hkY)
           | fail)
          have HY:Hid (UnS w Y A (A+1) (A+2) b K s4 ((c:Int),(q:Int)) (i+1) v ys):=⟨HM6.out.store HO3.out hkY hbY,HUI.out _,HUN.out.ks⟩;clear hbY hkY;go_roundw
          case rel=>exact⟨i+1,K,s4,_,v,ys,HLT.out,by go_num,HY.out⟩
          case measure=>simp only[RowKit.intOf];have:=HLT.out;omega
         ·have hod1:decide (od<0)=false:=decide_eq_false hod;have hod2:(!decide (od<0))=true:=(by rw[hod1];rfl);have HMf:Hid (MdS w (w6.setCell ⟨A,2,none⟩ (.bool true)) A (A+1) (A+2) b (s4.1,true) la v ys):=HM6.out.flag HO3.out;obtain⟨w7,hw7⟩:∃w7,w6.setCell ⟨A,2,none⟩ (.bool true)=w7:=⟨_,rfl⟩;have HW7:Hid (w6.setCell ⟨A,2,none⟩ (.bool true)=w7):=hw7;rw[hw7] at HMf;have HA7:Hid (Blk w7 ab [.int .i64 (c:Int),.int .i64 (q:Int)] 57):=(by show Blk _ _ _ _;rw[<- hw7];exact HA6.out.other _ _ (fun e=>by have e':ab=A:=e;have:=HAC.out;omega));have HR7:Hid (w7.rangeAt ab 0 [.int .i64 (c:Int),.int .i64 (q:Int)]):=HA7.out.all;have HL7:Hid (Blk w7 (A+2) [.int .i64 la.1,.int .i64 la.2] 57):=HMf.out.la;clear hw7;go_wp2_with (first
           | (rw[HW7.out])
           | (refine wpList_load_mid rfl 57 (.tmp 12) rfl ab 0 rfl [.int .i64 (c:Int),.int .i64 (q:Int)] _ HR7.out Tryz.underlying57 rfl F4 ?_)
           | (refine G6 rfl 57 (.tmp 8) (.tmp 117) rfl (A+2) [.int .i64 la.1,.int .i64 la.2] [.int .i64 (c:Int),.int .i64 (q:Int)] 57 HL7.out rfl rfl rfl F4 (j0w (c:Int) (q:Int)) ?_;intro Y hbY hkY)
           | fail)
          have HY:Hid (UnS w Y A (A+1) (A+2) b K (s4.1,true) ((c:Int),(q:Int)) (i+1) v ys):=⟨HMf.out.store HO3.out hkY hbY,HUI.out _,HUN.out.ks⟩;clear hbY hkY;go_roundw
          case rel=>exact⟨i+1,K,_,_,v,ys,HLT.out,by go_num,HY.out⟩
          case measure=>simp only[RowKit.intOf];have:=HLT.out;omega
        | false=>
         rw[hb4] at c2;obtain⟨lo,hlo⟩:=j58 ((c:Int),(q:Int)) HUN.out.ui.st;obtain⟨pe,hpe⟩:∃pe,rpE (gv a) K lo (c:Int) (q:Int) a=pe:=⟨_,rfl⟩;have HUI:Hid (UI b (rpK (gv a) K lo (c:Int) (q:Int) a) (s4.1,!(decide (pe=0)&&decide (od<0))) ((c:Int),(q:Int)) (i+1)):=by
          have h:=HUN.out.ui.put (by rw[HMn.out.1];exact HLT.out) (congrArg Nat.cast HD.out.1.symm) (congrArg Nat.cast HD.out.2.1.symm) HD.out.2.2.1 HD.out.2.2.2.1 hb4 hlo;rw[hpe,HOD.out] at h;exact h
         have HW:Hid (CW b s3 a s4):=HDW.out;have HPut:Hid (Calls Tryz.prog 26 #[.pointer (some ⟨A+1,0,none⟩),.agg #[.int .i64 (c:Int),.int .i64 (q:Int)],.agg (a.cells sl).toArray] wc fun e w'=>∃v' ys',e=.returned (.int .i64 (pe:Nat))/\DG w' (A+2+1) (A+1) v' ys'/\ys'.map (·.1)=rpK (gv a) K lo (c:Int) (q:Int) a/\Kp wc w' (fun i=>i=A+1)):=by
          have h:=HCT.out.call HUN.out.ks HUN.out.ui.st HUN.out.ui.ok hlo (by have h5:=HW.out.size HS3.out hb4;have:=HB.out.2;omega) HW.out.ok HW.out.txt HW.out.sz HW.out.x;rw[hpe] at h;exact h
         have HS4:Hid (s4.2=false):=hb4;clear hb4 HD hlo hpe HOD;have HRa:Hid (wc.rangeAt ab 0 [.int .i64 (c:Int),.int .i64 (q:Int)]):=HCT.out.ab.all;have HRc:Hid (wc.rangeAt cb 0 (a.cells sl)):=HCT.out.cb.all;go_wp2_with (first
          | (refine wpList_load_mid rfl 57 (.tmp 12) rfl ab 0 rfl [.int .i64 (c:Int),.int .i64 (q:Int)] _ HRa.out Tryz.underlying57 rfl F4 ?_)
          | (refine wpList_load_mid rfl 66 (.tmp 13) rfl cb 0 rfl (a.cells sl) _ HRc.out Tryz.underlying66 rfl E8 ?_)
          | fail)
         refine HPut.out.mono ?_;rintro e w5 ⟨v5,ys5,rfl,hd5,hy5,k5⟩;have HM5:Hid (MdS w w5 A (A+1) (A+2) b s4 la v5 ys5/\ys5.map (·.1)=rpK (gv a) K lo (c:Int) (q:Int) a):=⟨HCT.out.md.put HO3.out k5 hd5,hy5⟩;have HA5:Hid (Blk w5 ab [.int .i64 (c:Int),.int .i64 (q:Int)] 57):=HCT.out.ab.kp k5 (fun e=>by have e':ab=A+1:=e;have:=HAC.out;omega);have HR5:Hid (w5.rangeAt ab 0 [.int .i64 (c:Int),.int .i64 (q:Int)]):=HA5.out.all;have HL5:Hid (w5.rangeAt (A+2) 0 [.int .i64 la.1,.int .i64 la.2]):=HM5.out.1.la.all;clear k5 hd5 hy5 HPut HRa HRc HCT c2 f2 HW;go_wp2_with (first
          | (refine wpList_load_mid rfl 57 (.tmp 12) rfl ab 0 rfl [.int .i64 (c:Int),.int .i64 (q:Int)] _ HR5.out Tryz.underlying57 rfl F4 ?_)
          | (refine wpList_load_mid rfl 57 (.tmp 8) rfl (A+2) 0 rfl [.int .i64 la.1,.int .i64 la.2] _ HL5.out Tryz.underlying57 rfl F4 ?_)
          | fail)
         refine(HOr.out w5).mono ?_;rintro e w6 ⟨rfl,k6⟩;have HM6:Hid (MdS w w6 A (A+1) (A+2) b s4 la v5 ys5):=HM5.out.1.nul k6;have HA6:Hid (Blk w6 ab [.int .i64 (c:Int),.int .i64 (q:Int)] 57):=HA5.out.kp k6 (fun x=>x);have HR6:Hid (w6.rangeAt ab 0 [.int .i64 (c:Int),.int .i64 (q:Int)]):=HA6.out.all;have HL6:Hid (Blk w6 (A+2) [.int .i64 la.1,.int .i64 la.2] 57):=HM6.out.la;have c6:w6.cell? ⟨A,2,none⟩=some (.bool s4.2):=HM6.out.rs.blk.cell rfl;have f6:w6.frozen? ⟨A,2,none⟩=false:=HM6.out.rs.blk.froz 2;clear k6 HR5 HL5 HA5;by_cases hall:pe=0/\od<0
         ·obtain⟨hpe,hod⟩:=hall;subst hpe;have HUY:Hid (UI b (rpK (gv a) K lo (c:Int) (q:Int) a) s4 ((c:Int),(q:Int)) (i+1)):=by
           have h:=HUI.out;rw[decide_eq_true rfl,decide_eq_true hod] at h;have e4:s4=(s4.1,false):=(by rw[<- HS4.out]);rw[e4];exact h
          clear HUI;go_wp2_with (first
           | (refine wpList_load_mid rfl 57 (.tmp 12) rfl ab 0 rfl [.int .i64 (c:Int),.int .i64 (q:Int)] _ HR6.out Tryz.underlying57 rfl F4 ?_)
           | (refine G6 rfl 57 (.tmp 8) (.tmp 117) rfl (A+2) [.int .i64 la.1,.int .i64 la.2] [.int .i64 (c:Int),.int .i64 (q:Int)] 57 HL6.out rfl rfl rfl F4 (j0w (c:Int) (q:Int)) ?_;intro Y hbY hkY)
           | fail)
          have HY:Hid (UnS w Y A (A+1) (A+2) b _ s4 ((c:Int),(q:Int)) (i+1) v5 ys5):=⟨HM6.out.store HO3.out hkY hbY,HUY.out,HM5.out.2⟩;clear hbY hkY;go_roundw
          case rel=>exact⟨i+1,_,s4,_,v5,ys5,HLT.out,by go_num,HY.out⟩
          case measure=>simp only[RowKit.intOf];have:=HLT.out;omega
         ·have HUY:Hid (UI b (rpK (gv a) K lo (c:Int) (q:Int) a) (s4.1,true) ((c:Int),(q:Int)) (i+1)):=by
           have h:=HUI.out;have e5:(decide (pe=0)&&decide (od<0))=false:=by
            rw[Bool.and_eq_false_iff];rcases Nat.eq_zero_or_pos pe with q1|q1
            ·exact .inr (decide_eq_false (fun q2=>hall ⟨q1,q2⟩))
            ·exact .inl (decide_eq_false (by omega))
           rw[e5] at h;exact h
          have HMf:Hid (MdS w (w6.setCell ⟨A,2,none⟩ (.bool true)) A (A+1) (A+2) b (s4.1,true) la v5 ys5):=HM6.out.flag HO3.out;obtain⟨w7,hw7⟩:∃w7,w6.setCell ⟨A,2,none⟩ (.bool true)=w7:=⟨_,rfl⟩;have HW7:Hid (w6.setCell ⟨A,2,none⟩ (.bool true)=w7):=hw7;rw[hw7] at HMf;have HA7:Hid (Blk w7 ab [.int .i64 (c:Int),.int .i64 (q:Int)] 57):=(by show Blk _ _ _ _;rw[<- hw7];exact HA6.out.other _ _ (fun e=>by have e':ab=A:=e;have:=HAC.out;omega));have HR7:Hid (w7.rangeAt ab 0 [.int .i64 (c:Int),.int .i64 (q:Int)]):=HA7.out.all;have HL7:Hid (Blk w7 (A+2) [.int .i64 la.1,.int .i64 la.2] 57):=HMf.out.la;clear hw7 HUI;have hcase:(((pe:Nat):Int)!=0)=true∨((((pe:Nat):Int)!=0)=false/\decide (od<0)=false):=by
           rcases Nat.eq_zero_or_pos pe with q1|q1
           ·exact .inr ⟨by simp[q1],decide_eq_false (fun q2=>hall ⟨q1,q2⟩)⟩
           ·exact .inl (by simp;omega)
          clear hall;rcases hcase with hp1|⟨hp1,hp2⟩;all_goals (
           go_wp2_with (first
            | (rw[HW7.out])
            | (refine wpList_load_mid rfl 57 (.tmp 12) rfl ab 0 rfl [.int .i64 (c:Int),.int .i64 (q:Int)] _ HR7.out Tryz.underlying57 rfl F4 ?_)
            | (refine G6 rfl 57 (.tmp 8) (.tmp 117) rfl (A+2) [.int .i64 la.1,.int .i64 la.2] [.int .i64 (c:Int),.int .i64 (q:Int)] 57 HL7.out rfl rfl rfl F4 (j0w (c:Int) (q:Int)) ?_;intro Y hbY hkY)
            | fail)
           have HY:Hid (UnS w Y A (A+1) (A+2) b _ (s4.1,true) ((c:Int),(q:Int)) (i+1) v5 ys5):=⟨HMf.out.store HO3.out hkY hbY,HUY.out,HM5.out.2⟩;clear hbY hkY;go_roundw
           case rel=>exact⟨i+1,_,_,_,v5,ys5,HLT.out,by go_num,HY.out⟩
           case measure=>simp only[RowKit.intOf];have:=HLT.out;omega)
     ·have hlt':¬(i:Int)<(m:Int):=(by omega);clear hun;go_wp2_with fail;go_meet;exact⟨K,s,la,i,v,ys,HUN.out,.inl (by omega)⟩
   case rest=>
    clear HU0;obtain⟨K,s,la,i,v,ys,hun,hx⟩:=hcut;have HUN:Hid (UnS w wc A (A+1) (A+2) b K s la i v ys):=hun;have HX:Hid (m<=i∨s.2=true):=hx;have c0:wc.cell? ⟨A,0,none⟩=some (.string ⟨b.toArray⟩):=hun.md.rs.blk.cell rfl;have c1:wc.cell? ⟨A,1,none⟩=some (.int .i64 s.1):=hun.md.rs.blk.cell rfl;have c2:wc.cell? ⟨A,2,none⟩=some (.bool s.2):=hun.md.rs.blk.cell rfl;have HIm:Hid ((dN b 2 (0,false)).1<=i∨s.2=true):=(by show _∨_;rw[HMn.out.1];exact hx);have hbz:((ByteArray.mk b.toArray).size:Int)=(b.length:Int):=(by show ((b.toArray.size:Nat):Int)=_;rw[List.size_toArray]);clear hun hx;cases hb:s.2 with
    | true=>
     rw[hb] at c2;obtain⟨g1,g2⟩:=HUN.out.ui.no HB.out.1 HE0.out HIm.out (.inl hb);rw[HO.out.1] at g1;rw[HO.out.2] at g2;subst g2;have HF:Hid (∀wq,Kp wc wq Nul->RuP w 3 o (.returned (.tuple #[.pointer none,.int .i64 3])) wq):=(fun wq k=>RuP.fin g1 (HUN.out.md.kp.trans k));clear g1 hb c0 c1 HIm HX HUN HO HMn HS1 HS2 HO3 HE0 HB;go_wp2_with fail;refine wp_region_noPanic ?_;refine F5 (fun w':World=>w'.cell? ⟨A,2,none⟩=some (.bool true)) (by kernel_rfl) c2 (fun hHeld=>?_);refine j3 (i:=0) (v:=?_) (some 118) rfl rfl (by kernel_rfl) (fun _ _ _ h=>h) (Or.inl ⟨by rfl,?_⟩) hHeld ?_;rotate_left
     ·intro w' hSw;have hc2:=hSw;clear hSw;go_simp;try with_reducible rfl
     simp only[Act.put,Sz0,Sz1,Sz2];refine j3 (i:=1) (v:=?_) (some 119) rfl rfl (by kernel_rfl) (fun _ _ _ h=>h) (Or.inl ⟨by rfl,?_⟩) hHeld ?_;rotate_left
     ·intro w' hSw;have hc2:=hSw;clear hSw;go_simp;try with_reducible rfl
     simp only[Act.put,Sz0,Sz1,Sz2];refine j3 (i:=2) (v:=?_) (some 120) rfl rfl (by kernel_rfl) (fun _ _ _ h=>h) (Or.inl ⟨by rfl,?_⟩) hHeld ?_;rotate_left
     ·intro w' hSw;have hc2:=hSw;clear hSw;go_simp;try with_reducible rfl
     simp only[Act.put,Sz0,Sz1,Sz2];refine j3 (i:=3) (v:=?_) (some 121) rfl rfl (by kernel_rfl) (fun _ _ _ h=>h) (Or.inl ⟨by rfl,?_⟩) hHeld ?_;rotate_left
     ·intro w' hSw;have hc2:=hSw;clear hSw;go_simp;try with_reducible rfl
     simp only[Act.put,Sz0,Sz1,Sz2];refine j3 (i:=4) (v:=?_) (some 122) rfl rfl (by kernel_rfl) (fun _ _ _ h=>h) (Or.inl ⟨by rfl,?_⟩) hHeld ?_;rotate_left
     ·intro w' hSw;have hc2:=hSw;clear hSw;go_simp;try with_reducible rfl
     simp only[Act.put,Sz0,Sz1,Sz2];refine j3 (i:=5) (v:=undef) (some 123) rfl rfl (by kernel_rfl) (fun _ _ _ h=>h) (Or.inr ⟨by rfl,rfl⟩) hHeld ?_;simp only[Act.put,Sz0,Sz1,Sz2];refine j3 (i:=6) (v:=undef) (some 124) rfl rfl (by kernel_rfl) (fun _ _ _ h=>h) (Or.inr ⟨by rfl,rfl⟩) hHeld ?_;simp only[Act.put,Sz0,Sz1,Sz2];refine j3 (i:=7) (v:=undef) (some 125) rfl rfl (by kernel_rfl) (fun _ _ _ h=>h) (Or.inr ⟨by rfl,rfl⟩) hHeld ?_;simp only[Act.put,Sz0,Sz1,Sz2];refine j3 (i:=8) (v:=undef) (some 126) rfl rfl (by kernel_rfl) (fun _ _ _ h=>h) (Or.inr ⟨by rfl,rfl⟩) hHeld ?_;simp only[Act.put,Sz0,Sz1,Sz2];refine j3 (i:=9) (v:=undef) (some 127) rfl rfl (by kernel_rfl) (fun _ _ _ h=>h) (Or.inr ⟨by rfl,rfl⟩) hHeld ?_;simp only[Act.put,Sz0,Sz1,Sz2];refine j3 (i:=10) (v:=undef) (some 128) rfl rfl (by kernel_rfl) (fun _ _ _ h=>h) (Or.inr ⟨by rfl,rfl⟩) hHeld ?_;simp only[Act.put,Sz0,Sz1,Sz2];refine j3 (i:=11) (v:=undef) (some 129) rfl rfl (by kernel_rfl) (fun _ _ _ h=>h) (Or.inr ⟨by rfl,rfl⟩) hHeld ?_
     simp only[Act.put,Sz0,Sz1,Sz2];refine j3 (i:=12) (v:=undef) (some 130) rfl rfl (by kernel_rfl) (fun _ _ _ h=>h) (Or.inr ⟨by rfl,rfl⟩) hHeld ?_;simp only[Act.put,Sz0,Sz1,Sz2];refine j3 (i:=13) (v:=undef) (some 131) rfl rfl (by kernel_rfl) (fun _ _ _ h=>h) (Or.inr ⟨by rfl,rfl⟩) hHeld ?_;simp only[Act.put,Sz0,Sz1,Sz2];refine j3 (i:=14) (v:=undef) (some 132) rfl rfl (by kernel_rfl) (fun _ _ _ h=>h) (Or.inr ⟨by rfl,rfl⟩) hHeld ?_;simp only[Act.put,Sz0,Sz1,Sz2];refine j3 (i:=15) (v:=?_) (some 133) rfl rfl (by kernel_rfl) (fun _ _ _ h=>h) (Or.inl ⟨by rfl,?_⟩) hHeld ?_;rotate_left
     ·intro w' hSw;have hc2:=hSw;clear hSw;go_simp;try with_reducible rfl
     simp only[Act.put,Sz0,Sz1,Sz2];refine wpAnyH_done (by kernel_rfl) ?_ _;refine NoPanic.normal ?_;go_wp2_with fail;refine bodyPost_ret (results_tmp2 rfl _ _ _) rfl ?_;first|exact HF.out _ ((Kp.refl _ _).drew)|exact HF.out _ (Kp.refl _ _)
    | false=>
     rw[hb] at c2;by_cases hl:s.1=b.length
     ·have hle:(((s.1:Nat):Int)!=(b.length:Int))=false:=(by rw[hl];simp);have HHb:Hid (s.2=false/\s.1=b.length):=⟨hb,hl⟩;have HPk:Hid (∀wq,Kp wc wq Nul->Calls Tryz.prog 8 #[.pointer (some ⟨A+1,0,none⟩)] wq fun e w'=>e=.returned (.tuple #[.string ⟨(pkS K).toArray⟩,.int .i64 (pkE K)])/\Kp wq w' Nul):=(fun wq k=>jDG (A+2+1) (A+1) v ys K wq (HUN.out.md.dg.kp k) HUN.out.ks HUN.out.ui.ok.len (fun x hx=>⟨j2H (HUN.out.ui.ok.gd x hx),HUN.out.ui.ok.at' x hx⟩));clear hb hl;go_wp2_with fail;go_region_held3 (fun w':World=>w'.cell? ⟨A,0,none⟩=some (.string ⟨b.toArray⟩)/\w'.cell? ⟨A,1,none⟩=some (.int .i64 s.1)/\w'.cell? ⟨A,2,none⟩=some (.bool false)) (exact⟨c0,c1,c2⟩) (fail)
      clear c0 c1 c2 hbz hle;go_wp2_with fail;refine(HPk.out _ (by first|exact(Kp.refl _ _).drew|exact Kp.refl _ _)).mono ?_;rintro e w6 ⟨rfl,k6⟩;have HK6:Hid (Kp wc w6 Nul):=by first|exact((Kp.refl wc Nul).drew).trans k6|exact k6
      clear k6 HPk;by_cases h0:pkE K=0
      ·by_cases h1:pkS K=l
       ·obtain⟨g1,g2⟩:=HUN.out.ui.yes h0 h1;rw[HO.out.1] at g1;rw[HO.out.2] at g2;subst g2;have HF:Hid (RuP w 0 o (.returned (.tuple #[.pointer (some ⟨A+1,0,none⟩),.int .i64 0])) w6):=by
         show RuP _ _ _ _ _;rw[g1];exact .ok ((HUN.out.md.dg.kp HK6.out).low (by have:=HO3.out;omega) (by omega)) HUN.out.ks (by have:=HO3.out;omega) (HUN.out.md.kp.trans HK6.out)
        rw[h0,h1];clear g1 h0 h1 HIm HX HUN HO HMn HS1 HS2 HO3 HE0 HB HHb HK6;go_wp2_with fail;refine bodyPost_ret (results_tmp2 rfl _ _ _) rfl ?_;exact HF.out
       ·have hne:(pkS K==l)=false:=beq_eq_false_iff_ne.2 h1;obtain⟨g1,g2⟩:=HUN.out.ui.other HB.out.1 HE0.out HIm.out (.inr h1);rw[HO.out.1] at g1;rw[HO.out.2] at g2;subst g2;have HF:Hid (RuP w 3 o (.returned (.tuple #[.pointer none,.int .i64 3])) w6):=RuP.fin g1 (HUN.out.md.kp.trans HK6.out);rw[h0];generalize pkS K=pk at *;clear g1 h0 h1 HIm HX HUN HO HMn HS1 HS2 HO3 HE0 HB HHb HK6;go_wp2_with fail;refine bodyPost_ret (results_tmp2 rfl _ _ _) rfl ?_;exact HF.out
      ·have hne:(pkE K != 0)=true:=(by simpa using h0);obtain⟨g1,g2⟩:=HUN.out.ui.other HB.out.1 HE0.out HIm.out (.inl h0);rw[HO.out.1] at g1;rw[HO.out.2] at g2;subst g2;have HF:Hid (RuP w 3 o (.returned (.tuple #[.pointer none,.int .i64 3])) w6):=RuP.fin g1 (HUN.out.md.kp.trans HK6.out);generalize pkS K=pk at *;generalize pkE K=pe at *;clear g1 h0 HIm HX HUN HO HMn HS1 HS2 HO3 HE0 HB HHb HK6;go_wp2_with fail;refine bodyPost_ret (results_tmp2 rfl _ _ _) rfl ?_;exact HF.out
     ·have hle:(((s.1:Nat):Int)!=(b.length:Int))=true:=(by simp;omega);obtain⟨g1,g2⟩:=HUN.out.ui.no HB.out.1 HE0.out HIm.out (.inr hl);rw[HO.out.1] at g1;rw[HO.out.2] at g2;subst g2;have HF:Hid (∀wq,Kp wc wq Nul->RuP w 3 o (.returned (.tuple #[.pointer none,.int .i64 3])) wq):=(fun wq k=>RuP.fin g1 (HUN.out.md.kp.trans k));clear g1 hb HIm HX HUN HO HMn HS1 HS2 HO3 HE0 HB hl;go_wp2_with fail;go_region_held3 (fun w':World=>w'.cell? ⟨A,0,none⟩=some (.string ⟨b.toArray⟩)/\w'.cell? ⟨A,1,none⟩=some (.int .i64 s.1)/\w'.cell? ⟨A,2,none⟩=some (.bool false)) (exact⟨c0,c1,c2⟩) (fail)
      go_wp2_with fail;refine bodyPost_ret (results_tmp2 rfl _ _ _) rfl ?_;first|exact HF.out _ ((Kp.refl _ _).drew)|exact HF.out _ (Kp.refl _ _)
theorem j77 (w:World):Calls Tryz.prog 9 #[.pointer none,.pointer none] w fun e w'=>e=.returned (.bool true)/\Kp w w' Nul:=by
 refine(callsIn_wide (n:=12)).1 ?_;refine callsIn_of_wp_marks Tryz.func9 rfl trivial ?_ rfl;simp only[Tryz.ntmps9,List.size_toArray,List.length_cons,List.length_nil,Nat.reduceAdd,Nat.reduceSub,Array.replicate_succ,Array.replicate_zero,List.push_toArray,List.append_toArray,List.nil_append,List.cons_append];refine wpIn_wide.2 ?_;go_wp2_with fail;have hb:=Blk.new (w.alloc (.cells #[.pointer none] 24)) [.bool true] 4;rw[World.size_alloc] at hb;exact⟨_,j1U rfl rfl hb,rfl,((Kp.refl w Nul).alloc _).alloc _⟩
theorem jES {w w1 w2:World}{g r:Nat}{K:List Cc}{v:Value}{ys:List (Cc×Value)}(hs:D7 (K.map (·.1)))(ho:Ok17 K)(gi:GI w.heap.size w1 g K.reverse)(k1:Kp w w1 Nul)(k2:Kp w1 w2 Nul)(dg:DG w2 w1.heap.size r v ys)(ks:ys.map (·.1)=K)(low:w1.heap.size<=r):Two w2 w.heap.size g r K.reverse K v ys:=by
 refine⟨(j9.mono gi.lows (fun i hi=>⟨hi.1,fun e=>by have:=hi.2;omega⟩)).kp k2,⟨fun x hx=>ho.gd x (List.mem_reverse.1 hx),fun x hx=>ho.at' x (List.mem_reverse.1 hx),by rw[List.length_reverse];exact ho.len⟩,⟨hs,fun x=>List.mem_reverse.symm,List.length_reverse.symm⟩,?_,ks⟩;exact⟨dg.box,⟨dg.pts.row.1,by
  rcases dg.pts.row.2 with q|⟨g',c,cur,e,hb,rest⟩
  ·exact .inl q
  ·exact .inr ⟨g',c,cur,e,Nat.le_trans k1.size hb,rest⟩⟩,dg.pts.tree⟩
theorem jCf (l:List UInt8)(w:World)(hs:Sh w)(U:VS w):
 Calls Tryz.prog 11 #[.string ⟨l.toArray⟩] w fun e w'=>e=.returned (.bool true)/\Kp w w' Nul:=by
 have HU:Hid (Calls Tryz.prog 40 #[.string ⟨l.toArray⟩] w fun e w'=>UpP w (upR l) (upO l) e w'):=j6U l w hs U;have HR:Hid (∀wq,Calls Tryz.prog 42 #[.string ⟨l.toArray⟩] wq fun e w'=>RuP wq (upR l) (upO l) e w'):=fun wq=>jDe l wq
 have HAk:Hid (∀wq g r L Kd v ys,Two wq w.heap.size g r L Kd v ys->Calls Tryz.prog 9 #[.pointer (some ⟨g,0,none⟩),.pointer (some ⟨r,0,none⟩)] wq fun e w'=>e=.returned (.bool true)/\Kp wq w' Nul):=fun wq g r L Kd v ys ht=>j76 g r w.heap.size L Kd v ys wq ht
 have HAn:Hid (∀wq,Calls Tryz.prog 9 #[.pointer none,.pointer none] wq fun e w'=>e=.returned (.bool true)/\Kp wq w' Nul):=fun wq=>j77 wq
 have HOK:Hid (∀K,upO l=some K->D7 (K.map (·.1))/\Ok17 K):=fun K h=>⟨(j38 h).2.1,(j38 h).2.2.1⟩
 generalize upR l=er at *;generalize upO l=o at *;clear hs U;cases o with
 | none=>
  go_enter Tryz.func11,Tryz.ntmps11;go_wp2_with fail;refine HU.out.mono ?_;intro e w1 h1;cases h1 with
  | no kp=>
  have K1:Hid (Kp w w1 Nul):=kp;clear kp HU HAk HOK;go_wp2_with fail;refine(HR.out w1).mono ?_;intro e w2 h2;cases h2 with
  | no kp=>
  have K2:Hid (Kp w w2 Nul):=K1.out.trans kp;clear kp HR K1;go_wp2_with fail;refine(HAn.out w2).mono ?_;rintro e w3 ⟨rfl,k3⟩;have K3:Hid (Kp w w3 Nul):=K2.out.trans k3;clear k3;go_wp2_with fail;go_ret;exact⟨rfl,K3.out⟩
 | some K=>
  obtain⟨hst,hok⟩:=HOK.out K rfl;have HSO:Hid (D7 (K.map (·.1))/\Ok17 K):=⟨hst,hok⟩;clear hst hok HOK HAn;go_enter Tryz.func11,Tryz.ntmps11;go_wp2_with fail;refine HU.out.mono ?_;intro e w1 h1;cases h1 with
  | @ok _ g _ gi kp=>
  have K1:Hid (Kp w w1 Nul):=kp;have G1:Hid (GI w.heap.size w1 g K.reverse):=gi;clear kp HU gi;go_wp2_with fail;refine(HR.out w1).mono ?_;intro e w2 h2;cases h2 with
  | @ok _ r v ys _ dg ks low kp=>
  have K2:Hid (Kp w w2 Nul):=K1.out.trans kp;have T2:Hid (Two w2 w.heap.size g r K.reverse K v ys):=jES HSO.out.1 HSO.out.2 G1.out K1.out kp dg ks low;clear kp HR K1 G1 dg ks low;go_wp2_with fail;refine(HAk.out w2 g r _ _ v ys T2.out).mono ?_;rintro e w3 ⟨rfl,k3⟩;have K3:Hid (Kp w w3 Nul):=K2.out.trans k3;clear k3;go_wp2_with fail;go_ret;exact⟨rfl,K3.out⟩
theorem jCg (l:List UInt8)(w:World)(hl:l.length+8<=140737488355328)(U:VS w)(hs:Sh w)(hT:Tab w):
 Calls Tryz.prog 4 #[.string ⟨l.toArray⟩] w fun e w'=>e=.returned (.bool true)/\Kp w w' Nul:=by
 obtain⟨S,hS⟩:∃S,j1f l=S:=⟨_,rfl⟩;obtain⟨L,hL⟩:∃L,D5++l=L:=⟨_,rfl⟩;have hcat:(ByteArray.mk #[81,68,82,49])++(ByteArray.mk l.toArray)=⟨L.toArray⟩:=by rw[<- hL];exact j3Z l
 have hq4:4+l.length<=9223372036854775807:=by omega
 have HSeal:Hid (∀wq,Calls Tryz.prog 12 #[.string ⟨l.toArray⟩] wq fun e w'=>e=.returned (.string ⟨S.toArray⟩)/\Kp wq w' Nul):=fun wq=>by
  have:=jDq l wq hl;rw[hS] at this;exact this
 have HKn:Hid (∀wq,Kp w wq Nul->Calls Tryz.prog 10 #[] wq fun e w'=>e=.returned (.bool true)/\Kp wq w' Nul):=fun wq k=>jAE wq (U.kp k) (hs.kp k (fun x=>x)) (fun j hj=>k.cellN (hT j hj) (fun x=>x))
 have HRd:Hid (∀(t:List UInt8) wq,Kp w wq Nul->Calls Tryz.prog 11 #[.string ⟨t.toArray⟩] wq fun e w'=>e=.returned (.bool true)/\Kp wq w' Nul):=fun t wq k=>jCf t wq (hs.kp k (fun x=>x)) (U.kp k)
 clear hS hL hl U hs hT;go_enter Tryz.func4,Tryz.ntmps4;go_wp2_with fail;refine(HRd.out l w (Kp.refl _ _)).mono ?_;rintro e w1 ⟨rfl,k1⟩;have K1:Hid (Kp w w1 Nul):=k1;clear k1;go_wp2_with fail;refine(HSeal.out w1).mono ?_;rintro e w2 ⟨rfl,k2⟩;have K2:Hid (Kp w w2 Nul):=K1.out.trans k2;clear k2 K1 HSeal;go_wp2_with fail;refine(HRd.out S w2 K2.out).mono ?_;rintro e w3 ⟨rfl,k3⟩;have K3:Hid (Kp w w3 Nul):=K2.out.trans k3;clear k3 K2;go_wp2_with (first|(rw[hcat])|fail);refine(HRd.out L w3 K3.out).mono ?_;rintro e w4 ⟨rfl,k4⟩;have K4:Hid (Kp w w4 Nul):=K3.out.trans k4;clear k4 K3;go_wp2_with fail;refine(HKn.out w4 K4.out).mono ?_;rintro e w5 ⟨rfl,k5⟩;have K5:Hid (Kp w w5 Nul):=K4.out.trans k5;clear k5 K4;go_wp2_with fail;go_ret;exact⟨rfl,K5.out⟩
end Go.Proofs.YtnceajanlnnfoaaGreatDoor
