/-move.Fill, all of it. -/
import Derived.Test.YtecjfnkakodebaaGreatDoorQwMzm
set_option maxHeartbeats 40000000
set_option maxRecDepth 100000
namespace Go.Proofs.YtecjfnkakodebaaGreatDoor
open Go.RowKit Go.Maps
attribute [local go_sem] Oper.semAt_some
structure FyI (w:World) (B x6 g2:Nat) (G0:Nat->Prop) (M0 Ys:List Cc) (k:Nat) (Z:Nat->Prop) (W:World) (M:List Cc):Prop where
 gi:GridIn W (fun i=>Z i/\i≠x6/\i≠x6+1) g2 M
 ok:Ok17 M
 put:pts M0 (Ys.take k)=some M
 r6:Blk W x6 [.pointer none] 24
 r7:Blk W (x6+1) [.int .i64 0] 39
 kp:Kp w W G0
 zl:∀i,Z i->i<W.heap.size/\((i=x6∨i=x6+1)∨G0 i∨B+2<=i)
 z6:Z x6/\Z (x6+1)
 g0:∀i,G0 i->i<B/\x6+1<i
 hB:x6+1<B/\w.heap.size<=B
section
variable {w W W':World} {B x6 g2:Nat} {G0:Nat->Prop} {M0 Ys:List Cc} {k:Nat} {Z:Nat->Prop} {M:List Cc}
theorem FyI.far {S:Nat->Prop} (h:FyI w B x6 g2 G0 M0 Ys k Z W M) (g:Kp W W' S) (hZ:∀i,Z i->¬S i) (hb:∀i,i<B->S i->False):FyI w B x6 g2 G0 M0 Ys k Z W' M:=by
 have hB:=h.hB
 exact⟨h.gi.far' g (fun i hi=>hZ i hi.1),h.ok,h.put,h.r6.kp g (fun e=>hb _ (by omega) e),h.r7.kp g (fun e=>hb _ (by omega) e),h.kp.trans' g (fun i hi e=>(hb i (by omega) e).elim),fun i hi=>⟨Nat.lt_of_lt_of_le (h.zl i hi).1 g.size,(h.zl i hi).2⟩,h.z6,h.g0,hB⟩
theorem FyI.sm (h:FyI w B x6 g2 G0 M0 Ys k Z W M) {i:Nat} (hs:Sm W g2 i):Z i/\i≠x6/\i≠x6+1:=by
 obtain⟨hF,⟨hb',_⟩|⟨m,D,hb',hm',_⟩⟩:=h.gi
 ·rcases hs with rfl|⟨e,_⟩
  ·exact hF
  ·rw[hb'] at e;simp at e
 ·rcases hs with rfl|⟨e,_⟩
  ·exact hF
  ·rw[hb'] at e
   have em:m=i:=by simpa using e
   rw[<- em];exact hm'
theorem FyI.sm' (h:FyI w B x6 g2 G0 M0 Ys k Z W M) {i:Nat} (hs:Sm W g2 i):G0 i∨B+2<=i:=by
 obtain⟨h1,h2,h3⟩:=h.sm hs
 rcases(h.zl i h1).2 with (q|q)|q|q
 ·exact absurd q h2
 ·exact absurd q h3
 ·exact .inl q
 ·exact .inr q
theorem FyI.out (h:FyI w B x6 g2 G0 M0 Ys k Z W M) {i:Nat} (h0:¬G0 i) (hi:i<B+2):¬Sm W g2 i:=fun e=>by
 rcases h.sm' e with q|q
 ·exact h0 q
 ·omega
theorem FyI.step {y:Cc} {X:World} (h:FyI w B x6 g2 G0 M0 Ys k Z W M) (hy:Ys[k]? = some y) (hgd:Gd y.2) (hv:vC y.1.1 y.1.2=true) (hr:roomB M y.1=true) (hBV:B+2<=W.heap.size)
  (hg:GridIn X (fun i=>(Z i/\i≠x6/\i≠x6+1)∨W.heap.size<=i) g2 (putL M y.1 y.2)) (km:Km g2 W X) :
  ∃Z',FyI w B x6 g2 G0 M0 Ys (k+1) Z' X (putL M y.1 y.2)/\∀i,Z' i->Z i∨W.heap.size<=i:=by
 have hB:=h.hB
 have hkp:=km.kp
 have hsz:=hkp.size
 have h6:¬G0 x6:=fun e=>by have:=(h.g0 _ e).2;omega
 have h7:¬G0 (x6+1):=fun e=>by have:=(h.g0 _ e).2;omega
 refine⟨fun i=>(Z i∨W.heap.size<=i)/\i<X.heap.size,⟨?_,Ok17.put h.ok h.gi.once' hv hgd (roomB_iff.1 hr),pts_next h.put hy hr,h.r6.kp hkp (h.out h6 (by omega)),h.r7.kp hkp (h.out h7 (by omega)),h.kp.trans' hkp (fun i hi e=>?_),fun i hi=>⟨hi.2,?_⟩,⟨⟨.inl h.z6.1,?_⟩,⟨.inl h.z6.2,?_⟩⟩,h.g0,hB⟩,fun i hi=>hi.1⟩
 ·refine hg.lows.mono (fun i hi=>?_)
  rcases hi.1 with q|q
  ·exact⟨⟨.inl q.1,hi.2⟩,q.2⟩
  ·exact⟨⟨.inr q,hi.2⟩,by omega,by omega⟩
 ·rcases h.sm' e with q|q
  ·exact q
  ·omega
 ·rcases hi.1 with q|q
  ·exact(h.zl i q).2
  ·exact .inr (.inr (by omega))
 ·exact Nat.lt_of_lt_of_le (h.zl _ h.z6.1).1 hsz
 ·exact Nat.lt_of_lt_of_le (h.zl _ h.z6.2).1 hsz
theorem FyI.fail {y:Cc} (h:FyI w B x6 g2 G0 M0 Ys k Z W M) (hy:Ys[k]? = some y) (hr:¬roomB M y.1=true):pts M0 Ys=none:=pts_fail h.put hy hr
end
structure FlB (w W:World) (x8 x9 g2:Nat) (G:Nat->Prop) (L M0:List Cc) (b1 b2 b3 b4:Int) (u:Ct) (sl:Value) (fp:List Nat):Prop where
 gi:GridIn W G g2 M0
 g0:∀i,G i->w.heap.size<=i/\i<W.heap.size/\i≠x8/\i≠x9/\i∉fp
 mem:∀y,y∈M0↔y∈L/\y∉inL b1 b2 b3 b4 L
 ok:Ok17 M0
 nd:NdOwn W sl u.t fp
 c8:Blk W x8 [.pointer (some ⟨g2,0,none⟩)] 24
 c9:Blk W x9 (u.cells sl) 50
 kp:Kp w W Nul
def flY (f1 f2 A1 A2 A3 A4:Int) (u:Ct):List Cc:=(List.range (szN A1 A2 A3 A4)).map fun k=>(cK A1 A2 A3 k,hmC (shH ((cK A1 A2 A3 k).1-f1) ((cK A1 A2 A3 k).2-f2)) u)
theorem flY_get {f1 f2 A1 A2 A3 A4:Int} {u:Ct} {k:Nat} {p:Int×Int} (h:k<szN A1 A2 A3 A4) (hp:p=cK A1 A2 A3 k):(flY f1 f2 A1 A2 A3 A4 u)[k]? = some (p,hmC (shH (p.1-f1) (p.2-f2)) u):=by
 subst hp
 unfold flY
 rw[List.getElem?_map,List.getElem?_range h];rfl
theorem cellsN (a b c d:Int) (w:World):Calls Tryz.prog 36 #[.agg #[.int .i64 a,.int .i64 b,.int .i64 c,.int .i64 d]] w fun e w'=>e=.returned (.func (.func 69) #[] #[.pointer (some ⟨w.heap.size,0,none⟩)])/\Blk w' w.heap.size [.int .i64 a,.int .i64 b,.int .i64 c,.int .i64 d] 34/\Kp w w' Nul:=by
 go_enter Tryz.func36,Tryz.ntmps36
 go_wp2_with fail
 go_ret
 exact⟨rfl,Blk.new w _ _,(Kp.refl _ _).alloc _⟩
theorem nil_ptrF (g:Nat) (w:World):(binOp .eql 24 (.pointer (some ⟨g,0,none⟩)) (.pointer none)).run Tryz.prog w=.ok (.bool false) w:=by
 simp[go_sem]
theorem fill_core (g:Nat) (L Ys:List Cc) (u:Ct) (A1 A2 A3 A4 f1 f2:Int) (w:World) (_:vC f1 f2=true) (hvA:vA A1 A2 A3 A4=true) (hgd:u.k≠0->Gd u) (hY:Ys=if u.k=0 then [] else flY f1 f2 A1 A2 A3 A4 u)
  (HVA:Hid (∀w,Calls Tryz.prog 58 #[.agg #[.int .i64 A1,.int .i64 A2,.int .i64 A3,.int .i64 A4]] w fun e w'=>e=.returned (.bool true)/\Kp w w' Nul))
  (HVF:Hid (∀w,Calls Tryz.prog 44 #[.agg #[.int .i64 f1,.int .i64 f2]] w fun e w'=>e=.returned (.bool true)/\Kp w w' Nul))
  (HWo:Hid (∀wq,Kp w wq Nul->Calls Tryz.prog 53 #[.pointer (some ⟨g,0,none⟩),.agg #[.int .i64 A1,.int .i64 A2,.int .i64 A3,.int .i64 A4]] wq fun e w'=>∃g2 M,e=.returned (.pointer (some ⟨g2,0,none⟩))/\GridIn w' (fun i=>wq.heap.size<=i) g2 M/\Ok17 M/\(∀y,y∈M↔y∈L/\y∉inL A1 A2 A3 A4 L)/\wq.heap.size<=g2/\Kp wq w' Nul))
  (HGt:Hid (∀wq,Kp w wq Nul->Calls Tryz.prog 19 #[.pointer (some ⟨g,0,none⟩),.agg #[.int .i64 f1,.int .i64 f2]] wq fun e w'=>∃sl fp,e=.returned (u.val sl)/\Own w' wq.heap.size sl u.t fp/\Kp wq w' Nul))
  (HPcd:Hid (∀(G F:Nat->Prop) (g2:Nat) (c s:Int) (sl:Value) (M:List Cc) (wq:World),Kp w wq Nul->GridIn wq G g2 M->(∀i,wq.heap.size<=i->G i)->Ok17 M->Gd u->vC c s=true->NdIn wq F sl u.t->Calls Tryz.prog 55 #[.pointer (some ⟨g2,0,none⟩),.agg #[.int .i64 c,.int .i64 s],u.val sl,.agg #[.int .i64 f1,.int .i64 f2]] wq fun e w'=>∃er,e=.returned (.int .i64 er)/\∃M',GridIn w' G g2 M'/\PcR M (c,s) (hmC (shH (c-f1) (s-f2)) u) er M'/\Km g2 wq w')) :
  Calls Tryz.prog 22 #[.pointer (some ⟨g,0,none⟩),.agg #[.int .i64 f1,.int .i64 f2],.agg #[.int .i64 A1,.int .i64 A2,.int .i64 A3,.int .i64 A4]] w fun e w'=>∃v M0,e=.returned v/\CpV w w' L M0 Ys A1 A2 A3 A4 v:=by
 have HvA:Hid (vA A1 A2 A3 A4=true):=hvA
 have HGd:Hid (u.k≠0->Gd u):=hgd
 have HY:Hid (Ys=if u.k=0 then [] else flY f1 f2 A1 A2 A3 A4 u):=hY
 have hng:=nil_ptrF g
 obtain⟨W0,hW0⟩:∃W0,(((w.alloc (.cells #[.int .i64 f1,.int .i64 f2] 32)).alloc (.cells #[.int .i64 A1,.int .i64 A2,.int .i64 A3,.int .i64 A4] 34)).alloc (.cells #[.pointer none] 24)).alloc (.cells #[.int .i64 0] 39)=W0:=⟨_,rfl⟩
 have HW0:Hid ((((w.alloc (.cells #[.int .i64 f1,.int .i64 f2] 32)).alloc (.cells #[.int .i64 A1,.int .i64 A2,.int .i64 A3,.int .i64 A4] 34)).alloc (.cells #[.pointer none] 24)).alloc (.cells #[.int .i64 0] 39)=W0):=hW0
 have k0:Hid (Kp w W0 Nul):=by show Kp _ _ _;rw[<- hW0];exact((((Kp.refl w Nul).alloc _).alloc _).alloc _).alloc _
 have HB4:Hid (∀X,Kp W0 X Nul->Blk X w.heap.size [.int .i64 f1,.int .i64 f2] 32):=fun X k=>by
  have:Blk W0 w.heap.size [.int .i64 f1,.int .i64 f2] 32:=by rw[<- hW0];exact(((Blk.new w [.int .i64 f1,.int .i64 f2] _).alloc _).alloc _).alloc _
  exact this.kp k (fun x=>x)
 have HB5:Hid (∀X,Kp W0 X Nul->Blk X (w.heap.size+1) [.int .i64 A1,.int .i64 A2,.int .i64 A3,.int .i64 A4] 34):=fun X k=>by
  have:Blk W0 (w.heap.size+1) [.int .i64 A1,.int .i64 A2,.int .i64 A3,.int .i64 A4] 34:=by rw[<- hW0];exact((blkS (by simp) [.int .i64 A1,.int .i64 A2,.int .i64 A3,.int .i64 A4] _).alloc _).alloc _
  exact this.kp k (fun x=>x)
 have HB6:Hid (∀X,Kp W0 X Nul->Blk X (w.heap.size+2) [.pointer none] 24):=fun X k=>by
  have:Blk W0 (w.heap.size+2) [.pointer none] 24:=by rw[<- hW0];exact(blkS (by simp) [.pointer none] _).alloc _
  exact this.kp k (fun x=>x)
 have HB7:Hid (∀X,Kp W0 X Nul->Blk X (w.heap.size+2+1) [.int .i64 0] 39):=fun X k=>by
  have:Blk W0 (w.heap.size+2+1) [.int .i64 0] 39:=by rw[<- hW0];exact blkS (by simp) [.int .i64 0] _
  exact this.kp k (fun x=>x)
 have S0:Hid (W0.heap.size=w.heap.size+4):=by show _=_;rw[<- hW0];simp
 clear hW0 hvA hgd hY
 refine(callsIn_wide (n:=12)).1 ?_
 refine callsIn_of_wp_marks Tryz.func22 rfl trivial ?_ rfl
 simp only[Tryz.ntmps22,List.size_toArray,List.length_cons,List.length_nil,Nat.reduceAdd,Nat.reduceSub,Array.replicate_succ,Array.replicate_zero,List.push_toArray,List.append_toArray,List.nil_append,List.cons_append]
 refine wpIn_wide.2 ?_
 go_wp2_with fail
 rw[HW0.out]
 clear HW0
 refine(HVA.out _).mono ?_
 rintro e w1 ⟨rfl,hk1⟩
 have c0:w1.cell? ⟨w.heap.size,0,none⟩=some (.int .i64 f1):=(HB4.out w1 hk1).cell rfl
 have c1:w1.cell? ⟨w.heap.size,1,none⟩=some (.int .i64 f2):=(HB4.out w1 hk1).cell rfl
 have K1:Hid (Kp W0 w1 Nul):=hk1
 clear hk1 HVA
 go_wp2_with fail
 clear c0 c1
 refine(HVF.out _).mono ?_
 rintro e w2 ⟨rfl,hk2⟩
 have K2:Hid (Kp W0 w2 Nul):=K1.out.trans hk2
 clear hk2 HVF K1 hng
 go_upto_region 5 with fail
 obtain⟨WB,hWB⟩:∃WB,w2=WB:=⟨_,rfl⟩
 subst hWB
 have KWB:Hid (Kp W0 w2 Nul):=K2
 have HWB:Hid (Kp w w2 Nul):=k0.out.trans K2.out
 clear K2
 go_cut[8,9] from 24 to 29 (fun s t wz=>∃x8 x9 g2 G M0 sl fp,s=.pointer (some ⟨x8,0,none⟩)/\t=.pointer (some ⟨x9,0,none⟩)/\FlB w2 wz x8 x9 g2 G L M0 A1 A2 A3 A4 u sl fp)
 case first=>
  refine wp_region_noPanic ?_
  refine wp_region_hel (fun w':World=>Kp w2 w' Nul) (by kernel_rfl) ((Kp.refl _ _).drew) (fun hHeld=>?_)
  refine wpH_takes (i:=0) (v:=.pointer (some ⟨g,0,none⟩)) (some 24) rfl rfl (by kernel_rfl) (fun _ _ _ h=>h) (Or.inl ⟨by rfl,?_⟩) hHeld ?_
  ·intro w' hSw;clear hSw;go_simp
  simp only[Act.put,Sz0,Sz1,Sz2]
  refine wpH_takes (i:=1) (v:=.agg ([.int .i64 A1,.int .i64 A2,.int .i64 A3,.int .i64 A4]:List Value).toArray) (some 25) rfl rfl (by kernel_rfl) (fun _ _ _ h=>h) (Or.inl ⟨by rfl,fun w' hSw=>exec_load_row 34 (.tmp 5) rfl (w.heap.size+1) 0 rfl [.int .i64 A1,.int .i64 A2,.int .i64 A3,.int .i64 A4] _ (blk_range (HB5.out w' (KWB.out.trans hSw))) Tryz.underlying34 rfl infoArea⟩) hHeld ?_
  simp only[Act.put,Sz0,Sz1,Sz2]
  refine wpH_takes (i:=3) (v:=.pointer (some ⟨g,0,none⟩)) (some 27) rfl rfl (by kernel_rfl) (fun _ _ _ h=>h) (Or.inl ⟨by rfl,?_⟩) hHeld ?_
  ·intro w' hSw;clear hSw;go_simp
  simp only[Act.put,Sz0,Sz1,Sz2]
  refine wpH_takes (i:=4) (v:=.agg ([.int .i64 f1,.int .i64 f2]:List Value).toArray) (some 28) rfl rfl (by kernel_rfl) (fun _ _ _ h=>h) (Or.inl ⟨by rfl,fun w' hSw=>exec_load_row 32 (.tmp 4) rfl w.heap.size 0 rfl [.int .i64 f1,.int .i64 f2] _ (blk_range (HB4.out w' (KWB.out.trans hSw))) Tryz.underlying32 rfl infoAddr2'⟩) hHeld ?_
  simp only[Act.put,Sz0,Sz1,Sz2]
  have KU0:Kp w2 w2.drew Nul:=(Kp.refl _ _).drew
  generalize w2.drew=z0 at KU0 ⊢
  have KU:Hid (Kp w2 z0 Nul):=KU0
  clear KU0
  refine wpAnyH_all (rs:=[2,6,7]) (by kernel_rfl) (by simp) (fun j hj=>?_)
  rcases List.mem_cons.1 hj with rfl|hj
  ·clear hj
   refine wpH_at (i:=2) rfl rfl (fun K hK=>?_)
   go_simp
   refine(HWo.out _ (HWB.out.trans KU.out)).mono ?_
   rintro e z1 ⟨g2,M0,rfl,hgi,hok,hmem,_,hk2⟩
   have HMem:Hid (∀y,y∈M0↔y∈L/\y∉inL A1 A2 A3 A4 L):=hmem
   have HOkM:Hid (Ok17 M0):=hok
   have F1_2:Hid (GridIn z1 (fun i=>z0.heap.size<=i/\i<z1.heap.size) g2 M0):=hgi.lows
   have Z1:Hid (z0.heap.size<=z1.heap.size):=hk2.size
   have K1:Hid (Kp w2 z1 Nul):=KU.out.trans hk2
   refine hK.out _ _ K1.out (fun hHeld=>?_)
   clear hK K hk2 hgi hok hmem
   (try simp only[Act.put,Sz0,Sz1,Sz2])
   refine wpAnyH_all (rs:=[5,6,7]) (by kernel_rfl) (by simp) (fun j hj=>?_)
   rcases List.mem_cons.1 hj with rfl|hj
   ·clear hj
    refine wpH_at (i:=5) rfl rfl (fun K hK=>?_)
    go_simp
    refine(HGt.out _ (HWB.out.trans K1.out)).mono ?_
    rintro e z2 ⟨sl,fp,rfl,hown,hk2⟩
    have HOo:Hid (Own z2 z1.heap.size sl u.t fp):=hown
    have F2_5:Hid (NdOwn z2 sl u.t fp):=hown.own
    have Z2:Hid (z1.heap.size<=z2.heap.size/\∀i∈fp,z1.heap.size<=i/\i<z2.heap.size):=⟨hk2.size,hown.new⟩
    have K2:Hid (Kp w2 z2 Nul):=K1.out.trans hk2
    have F2_2:Hid (GridIn z2 (fun i=>z0.heap.size<=i/\i<z1.heap.size) g2 M0):=F1_2.out.kp hk2
    refine hK.out _ _ K2.out (fun hHeld=>?_)
    clear hK K hk2 hown
    (try simp only[Act.put,Sz0,Sz1,Sz2])
    refine wpAnyH_all (rs:=[6,7]) (by kernel_rfl) (by simp) (fun j hj=>?_)
    rcases List.mem_cons.1 hj with rfl|hj
    ·clear hj
     refine wpH_at (i:=6) rfl rfl (fun K hK=>?_)
     go_simp
     have hk2:Kp z2 (z2.alloc (.cells #[.pointer none] 24)) Nul:=(Kp.refl z2 Nul).alloc _
     have hb2:Blk (z2.alloc (.cells #[.pointer none] 24)) z2.heap.size [.pointer none] 24:=Blk.new z2 [.pointer none] 24
     have hs2:(z2.alloc (.cells #[.pointer none] 24)).heap.size=z2.heap.size+1:=World.size_alloc _ _
     generalize z2.alloc (.cells #[.pointer none] 24)=z3 at hk2 hb2 hs2 ⊢
     have F3_6:Hid (Blk z3 z2.heap.size [.pointer none] 24):=hb2
     have Z3:Hid (z3.heap.size=z2.heap.size+1):=hs2
     have K3:Hid (Kp w2 z3 Nul):=K2.out.trans hk2
     have F3_2:Hid (GridIn z3 (fun i=>z0.heap.size<=i/\i<z1.heap.size) g2 M0):=F2_2.out.kp hk2
     have F3_5:Hid (NdOwn z3 sl u.t fp):=F2_5.out.mono (fun i hi=>hk2.block i (node_lt (F2_5.out.node i hi)) (fun x=>x))
     refine hK.out _ _ K3.out (fun hHeld=>?_)
     clear hK K hk2 hb2 hs2
     (try simp only[Act.put,Sz0,Sz1,Sz2])
     refine wpH_step (i:=7) (by kernel_rfl) rfl rfl (fun K hK=>?_)
     go_simp
     have hk2:Kp z3 (z3.alloc (.cells #[.int .i64 0,.int .i64 0,.float .f64 0,.string ⟨#[]⟩,.bool false,.int .i64 0,.int .i64 0,.int .i64 0,.float .f64 0,.string ⟨#[]⟩,.bool false,.int .i64 0,.int .i64 0,.int .i64 0,.bool false,.bool false,.int .i64 0,.int .i64 0,.bool false,.bool false,.slice none 0 0] 50)) Nul:=(Kp.refl z3 Nul).alloc _
     have hb2:Blk (z3.alloc (.cells #[.int .i64 0,.int .i64 0,.float .f64 0,.string ⟨#[]⟩,.bool false,.int .i64 0,.int .i64 0,.int .i64 0,.float .f64 0,.string ⟨#[]⟩,.bool false,.int .i64 0,.int .i64 0,.int .i64 0,.bool false,.bool false,.int .i64 0,.int .i64 0,.bool false,.bool false,.slice none 0 0] 50)) z3.heap.size [.int .i64 0,.int .i64 0,.float .f64 0,.string ⟨#[]⟩,.bool false,.int .i64 0,.int .i64 0,.int .i64 0,.float .f64 0,.string ⟨#[]⟩,.bool false,.int .i64 0,.int .i64 0,.int .i64 0,.bool false,.bool false,.int .i64 0,.int .i64 0,.bool false,.bool false,.slice none 0 0] 50:=Blk.new z3 [.int .i64 0,.int .i64 0,.float .f64 0,.string ⟨#[]⟩,.bool false,.int .i64 0,.int .i64 0,.int .i64 0,.float .f64 0,.string ⟨#[]⟩,.bool false,.int .i64 0,.int .i64 0,.int .i64 0,.bool false,.bool false,.int .i64 0,.int .i64 0,.bool false,.bool false,.slice none 0 0] 50
     have hs2:(z3.alloc (.cells #[.int .i64 0,.int .i64 0,.float .f64 0,.string ⟨#[]⟩,.bool false,.int .i64 0,.int .i64 0,.int .i64 0,.float .f64 0,.string ⟨#[]⟩,.bool false,.int .i64 0,.int .i64 0,.int .i64 0,.bool false,.bool false,.int .i64 0,.int .i64 0,.bool false,.bool false,.slice none 0 0] 50)).heap.size=z3.heap.size+1:=World.size_alloc _ _
     generalize z3.alloc (.cells #[.int .i64 0,.int .i64 0,.float .f64 0,.string ⟨#[]⟩,.bool false,.int .i64 0,.int .i64 0,.int .i64 0,.float .f64 0,.string ⟨#[]⟩,.bool false,.int .i64 0,.int .i64 0,.int .i64 0,.bool false,.bool false,.int .i64 0,.int .i64 0,.bool false,.bool false,.slice none 0 0] 50)=z4 at hk2 hb2 hs2 ⊢
     have F4_7:Hid (Blk z4 z3.heap.size [.int .i64 0,.int .i64 0,.float .f64 0,.string ⟨#[]⟩,.bool false,.int .i64 0,.int .i64 0,.int .i64 0,.float .f64 0,.string ⟨#[]⟩,.bool false,.int .i64 0,.int .i64 0,.int .i64 0,.bool false,.bool false,.int .i64 0,.int .i64 0,.bool false,.bool false,.slice none 0 0] 50):=hb2
     have Z4:Hid (z4.heap.size=z3.heap.size+1):=hs2
     have K4:Hid (Kp w2 z4 Nul):=K3.out.trans hk2
     have F4_2:Hid (GridIn z4 (fun i=>z0.heap.size<=i/\i<z1.heap.size) g2 M0):=F3_2.out.kp hk2
     have F4_5:Hid (NdOwn z4 sl u.t fp):=F3_5.out.mono (fun i hi=>hk2.block i (node_lt (F3_5.out.node i hi)) (fun x=>x))
     have F4_6:Hid (Blk z4 (z2.heap.size) [.pointer none] 24):=F3_6.out.kp hk2 (fun x=>x)
     refine hK.out _ _ K4.out (fun hHeld=>?_)
     clear hK K hk2 hb2 hs2
     (try simp only[Act.put,Sz0,Sz1,Sz2])
     have HSZ:Hid (z0.heap.size<=z1.heap.size/\z1.heap.size<=z2.heap.size/\z3.heap.size=z2.heap.size+1/\z4.heap.size=z3.heap.size+1/\w2.heap.size<=z0.heap.size):=⟨Z1.out,Z2.out.1,Z3.out,Z4.out,KU.out.size⟩
     refine wpH_step (i:=8) (by kernel_rfl) rfl rfl (fun K hK=>?_)
     refine wp_store_var 24 (.tmp 8) (.tmp 26) rfl (z2.heap.size) rfl (.pointer (some ⟨g2,0,none⟩)) rfl rfl 24 _ F4_6.out (by kernel_rfl) ?_
     intro Y hbY hkY
     have hSZ:=HSZ.out
     have hne:¬z3.heap.size=z2.heap.size:=by omega
     have hle6:w2.heap.size<=z2.heap.size:=by omega
     have hle7:w2.heap.size<=z3.heap.size:=by omega
     have KY:Hid (Kp w2 Y Nul):=K4.out.trans' hkY (fun i hi e=>by have e':i=z2.heap.size:=e;omega)
     have HC7:Hid (Blk Y (z3.heap.size) [.int .i64 0,.int .i64 0,.float .f64 0,.string ⟨#[]⟩,.bool false,.int .i64 0,.int .i64 0,.int .i64 0,.float .f64 0,.string ⟨#[]⟩,.bool false,.int .i64 0,.int .i64 0,.int .i64 0,.bool false,.bool false,.int .i64 0,.int .i64 0,.bool false,.bool false,.slice none 0 0] 50):=F4_7.out.kp hkY hne
     refine hK.out _ _ KY.out (fun hHeld=>?_)
     clear hK K
     (try simp only[Act.put])
     refine wpH_step (i:=9) (by kernel_rfl) rfl rfl (fun K hK=>?_)
     refine wp_store_blk 50 (.tmp 9) (.tmp 29) rfl (z3.heap.size) _ (u.cells sl) _ HC7.out rfl rfl rfl infoContent (u.one HOo.out.own.one) ?_
     intro Y2 hbY2 hkY2
     have KY2:Hid (Kp w2 Y2 Nul):=KY.out.trans' hkY2 (fun i hi e=>by have e':i=z3.heap.size:=e;omega)
     have HFin:Hid (FlB w2 Y2 (z2.heap.size) (z3.heap.size) g2 (fun i=>z0.heap.size<=i/\i<z1.heap.size) L M0 A1 A2 A3 A4 u sl fp):=by
      have hgi:=F4_2.out
      have hy1:=hkY.size
      have hy2:=hkY2.size
      refine⟨(hgi.far' hkY (fun i hi e=>by have e':i=z2.heap.size:=e;omega)).far' hkY2 (fun i hi e=>by have e':i=z3.heap.size:=e;omega),fun i hi=>⟨by omega,by omega,by omega,by omega,fun e=>by have:=HOo.out.new i e;omega⟩,HMem.out,HOkM.out,?_,hbY.kp hkY2 (by show ¬_=_;omega),hbY2,KY2.out⟩
      have hno:=F4_5.out
      exact(hno.mono (fun i hi=>hkY.block i (node_lt (hno.node i hi)) (fun e=>by have e':i=z2.heap.size:=e;have:=HOo.out.new i hi;omega))).mono (fun i hi=>hkY2.block i (Nat.lt_of_lt_of_le (node_lt (hno.node i hi)) hy1) (fun e=>by have e':i=z3.heap.size:=e;have:=HOo.out.new i hi;omega))
     refine hK.out _ _ KY2.out (fun _=>?_)
     clear hK K hHeld hbY hkY hbY2 hkY2 hSZ hne hle6 hle7
     (try simp only[Act.put])
     refine wpAnyH_done (by kernel_rfl) ?_ _
     refine NoPanic.normal ?_
     go_wp2_with fail
     go_meet
     case rel=>exact⟨_,_,g2,_,M0,sl,fp,rfl,rfl,HFin.out⟩
    obtain rfl:=List.mem_singleton.1 hj
    clear hj
    refine wpH_at (i:=7) rfl rfl (fun K hK=>?_)
    go_simp
    have hk2:Kp z2 (z2.alloc (.cells #[.int .i64 0,.int .i64 0,.float .f64 0,.string ⟨#[]⟩,.bool false,.int .i64 0,.int .i64 0,.int .i64 0,.float .f64 0,.string ⟨#[]⟩,.bool false,.int .i64 0,.int .i64 0,.int .i64 0,.bool false,.bool false,.int .i64 0,.int .i64 0,.bool false,.bool false,.slice none 0 0] 50)) Nul:=(Kp.refl z2 Nul).alloc _
    have hb2:Blk (z2.alloc (.cells #[.int .i64 0,.int .i64 0,.float .f64 0,.string ⟨#[]⟩,.bool false,.int .i64 0,.int .i64 0,.int .i64 0,.float .f64 0,.string ⟨#[]⟩,.bool false,.int .i64 0,.int .i64 0,.int .i64 0,.bool false,.bool false,.int .i64 0,.int .i64 0,.bool false,.bool false,.slice none 0 0] 50)) z2.heap.size [.int .i64 0,.int .i64 0,.float .f64 0,.string ⟨#[]⟩,.bool false,.int .i64 0,.int .i64 0,.int .i64 0,.float .f64 0,.string ⟨#[]⟩,.bool false,.int .i64 0,.int .i64 0,.int .i64 0,.bool false,.bool false,.int .i64 0,.int .i64 0,.bool false,.bool false,.slice none 0 0] 50:=Blk.new z2 [.int .i64 0,.int .i64 0,.float .f64 0,.string ⟨#[]⟩,.bool false,.int .i64 0,.int .i64 0,.int .i64 0,.float .f64 0,.string ⟨#[]⟩,.bool false,.int .i64 0,.int .i64 0,.int .i64 0,.bool false,.bool false,.int .i64 0,.int .i64 0,.bool false,.bool false,.slice none 0 0] 50
    have hs2:(z2.alloc (.cells #[.int .i64 0,.int .i64 0,.float .f64 0,.string ⟨#[]⟩,.bool false,.int .i64 0,.int .i64 0,.int .i64 0,.float .f64 0,.string ⟨#[]⟩,.bool false,.int .i64 0,.int .i64 0,.int .i64 0,.bool false,.bool false,.int .i64 0,.int .i64 0,.bool false,.bool false,.slice none 0 0] 50)).heap.size=z2.heap.size+1:=World.size_alloc _ _
    generalize z2.alloc (.cells #[.int .i64 0,.int .i64 0,.float .f64 0,.string ⟨#[]⟩,.bool false,.int .i64 0,.int .i64 0,.int .i64 0,.float .f64 0,.string ⟨#[]⟩,.bool false,.int .i64 0,.int .i64 0,.int .i64 0,.bool false,.bool false,.int .i64 0,.int .i64 0,.bool false,.bool false,.slice none 0 0] 50)=z5 at hk2 hb2 hs2 ⊢
    have F5_7:Hid (Blk z5 z2.heap.size [.int .i64 0,.int .i64 0,.float .f64 0,.string ⟨#[]⟩,.bool false,.int .i64 0,.int .i64 0,.int .i64 0,.float .f64 0,.string ⟨#[]⟩,.bool false,.int .i64 0,.int .i64 0,.int .i64 0,.bool false,.bool false,.int .i64 0,.int .i64 0,.bool false,.bool false,.slice none 0 0] 50):=hb2
    have Z5:Hid (z5.heap.size=z2.heap.size+1):=hs2
    have K5:Hid (Kp w2 z5 Nul):=K2.out.trans hk2
    have F5_2:Hid (GridIn z5 (fun i=>z0.heap.size<=i/\i<z1.heap.size) g2 M0):=F2_2.out.kp hk2
    have F5_5:Hid (NdOwn z5 sl u.t fp):=F2_5.out.mono (fun i hi=>hk2.block i (node_lt (F2_5.out.node i hi)) (fun x=>x))
    refine hK.out _ _ K5.out (fun hHeld=>?_)
    clear hK K hk2 hb2 hs2
    (try simp only[Act.put,Sz0,Sz1,Sz2])
    refine wpH_step (i:=6) (by kernel_rfl) rfl rfl (fun K hK=>?_)
    go_simp
    have hk2:Kp z5 (z5.alloc (.cells #[.pointer none] 24)) Nul:=(Kp.refl z5 Nul).alloc _
    have hb2:Blk (z5.alloc (.cells #[.pointer none] 24)) z5.heap.size [.pointer none] 24:=Blk.new z5 [.pointer none] 24
    have hs2:(z5.alloc (.cells #[.pointer none] 24)).heap.size=z5.heap.size+1:=World.size_alloc _ _
    generalize z5.alloc (.cells #[.pointer none] 24)=z6 at hk2 hb2 hs2 ⊢
    have F6_6:Hid (Blk z6 z5.heap.size [.pointer none] 24):=hb2
    have Z6:Hid (z6.heap.size=z5.heap.size+1):=hs2
    have K6:Hid (Kp w2 z6 Nul):=K5.out.trans hk2
    have F6_2:Hid (GridIn z6 (fun i=>z0.heap.size<=i/\i<z1.heap.size) g2 M0):=F5_2.out.kp hk2
    have F6_5:Hid (NdOwn z6 sl u.t fp):=F5_5.out.mono (fun i hi=>hk2.block i (node_lt (F5_5.out.node i hi)) (fun x=>x))
    have F6_7:Hid (Blk z6 (z2.heap.size) [.int .i64 0,.int .i64 0,.float .f64 0,.string ⟨#[]⟩,.bool false,.int .i64 0,.int .i64 0,.int .i64 0,.float .f64 0,.string ⟨#[]⟩,.bool false,.int .i64 0,.int .i64 0,.int .i64 0,.bool false,.bool false,.int .i64 0,.int .i64 0,.bool false,.bool false,.slice none 0 0] 50):=F5_7.out.kp hk2 (fun x=>x)
    refine hK.out _ _ K6.out (fun hHeld=>?_)
    clear hK K hk2 hb2 hs2
    (try simp only[Act.put,Sz0,Sz1,Sz2])
    have HSZ:Hid (z0.heap.size<=z1.heap.size/\z1.heap.size<=z2.heap.size/\z5.heap.size=z2.heap.size+1/\z6.heap.size=z5.heap.size+1/\w2.heap.size<=z0.heap.size):=⟨Z1.out,Z2.out.1,Z5.out,Z6.out,KU.out.size⟩
    refine wpH_step (i:=8) (by kernel_rfl) rfl rfl (fun K hK=>?_)
    refine wp_store_var 24 (.tmp 8) (.tmp 26) rfl (z5.heap.size) rfl (.pointer (some ⟨g2,0,none⟩)) rfl rfl 24 _ F6_6.out (by kernel_rfl) ?_
    intro Y hbY hkY
    have hSZ:=HSZ.out
    have hne:¬z2.heap.size=z5.heap.size:=by omega
    have hle6:w2.heap.size<=z5.heap.size:=by omega
    have hle7:w2.heap.size<=z2.heap.size:=by omega
    have KY:Hid (Kp w2 Y Nul):=K6.out.trans' hkY (fun i hi e=>by have e':i=z5.heap.size:=e;omega)
    have HC7:Hid (Blk Y (z2.heap.size) [.int .i64 0,.int .i64 0,.float .f64 0,.string ⟨#[]⟩,.bool false,.int .i64 0,.int .i64 0,.int .i64 0,.float .f64 0,.string ⟨#[]⟩,.bool false,.int .i64 0,.int .i64 0,.int .i64 0,.bool false,.bool false,.int .i64 0,.int .i64 0,.bool false,.bool false,.slice none 0 0] 50):=F6_7.out.kp hkY hne
    refine hK.out _ _ KY.out (fun hHeld=>?_)
    clear hK K
    (try simp only[Act.put])
    refine wpH_step (i:=9) (by kernel_rfl) rfl rfl (fun K hK=>?_)
    refine wp_store_blk 50 (.tmp 9) (.tmp 29) rfl (z2.heap.size) _ (u.cells sl) _ HC7.out rfl rfl rfl infoContent (u.one HOo.out.own.one) ?_
    intro Y2 hbY2 hkY2
    have KY2:Hid (Kp w2 Y2 Nul):=KY.out.trans' hkY2 (fun i hi e=>by have e':i=z2.heap.size:=e;omega)
    have HFin:Hid (FlB w2 Y2 (z5.heap.size) (z2.heap.size) g2 (fun i=>z0.heap.size<=i/\i<z1.heap.size) L M0 A1 A2 A3 A4 u sl fp):=by
     have hgi:=F6_2.out
     have hy1:=hkY.size
     have hy2:=hkY2.size
     refine⟨(hgi.far' hkY (fun i hi e=>by have e':i=z5.heap.size:=e;omega)).far' hkY2 (fun i hi e=>by have e':i=z2.heap.size:=e;omega),fun i hi=>⟨by omega,by omega,by omega,by omega,fun e=>by have:=HOo.out.new i e;omega⟩,HMem.out,HOkM.out,?_,hbY.kp hkY2 (by show ¬_=_;omega),hbY2,KY2.out⟩
     have hno:=F6_5.out
     exact(hno.mono (fun i hi=>hkY.block i (node_lt (hno.node i hi)) (fun e=>by have e':i=z5.heap.size:=e;have:=HOo.out.new i hi;omega))).mono (fun i hi=>hkY2.block i (Nat.lt_of_lt_of_le (node_lt (hno.node i hi)) hy1) (fun e=>by have e':i=z2.heap.size:=e;have:=HOo.out.new i hi;omega))
    refine hK.out _ _ KY2.out (fun _=>?_)
    clear hK K hHeld hbY hkY hbY2 hkY2 hSZ hne hle6 hle7
    (try simp only[Act.put])
    refine wpAnyH_done (by kernel_rfl) ?_ _
    refine NoPanic.normal ?_
    go_wp2_with fail
    go_meet
    case rel=>exact⟨_,_,g2,_,M0,sl,fp,rfl,rfl,HFin.out⟩
   rcases List.mem_cons.1 hj with rfl|hj
   ·clear hj
    refine wpH_at (i:=6) rfl rfl (fun K hK=>?_)
    go_simp
    have hk2:Kp z1 (z1.alloc (.cells #[.pointer none] 24)) Nul:=(Kp.refl z1 Nul).alloc _
    have hb2:Blk (z1.alloc (.cells #[.pointer none] 24)) z1.heap.size [.pointer none] 24:=Blk.new z1 [.pointer none] 24
    have hs2:(z1.alloc (.cells #[.pointer none] 24)).heap.size=z1.heap.size+1:=World.size_alloc _ _
    generalize z1.alloc (.cells #[.pointer none] 24)=z7 at hk2 hb2 hs2 ⊢
    have F7_6:Hid (Blk z7 z1.heap.size [.pointer none] 24):=hb2
    have Z7:Hid (z7.heap.size=z1.heap.size+1):=hs2
    have K7:Hid (Kp w2 z7 Nul):=K1.out.trans hk2
    have F7_2:Hid (GridIn z7 (fun i=>z0.heap.size<=i/\i<z1.heap.size) g2 M0):=F1_2.out.kp hk2
    refine hK.out _ _ K7.out (fun hHeld=>?_)
    clear hK K hk2 hb2 hs2
    (try simp only[Act.put,Sz0,Sz1,Sz2])
    refine wpAnyH_all (rs:=[5,7]) (by kernel_rfl) (by simp) (fun j hj=>?_)
    rcases List.mem_cons.1 hj with rfl|hj
    ·clear hj
     refine wpH_at (i:=5) rfl rfl (fun K hK=>?_)
     go_simp
     refine(HGt.out _ (HWB.out.trans K7.out)).mono ?_
     rintro e z8 ⟨sl,fp,rfl,hown,hk2⟩
     have HOo:Hid (Own z8 z7.heap.size sl u.t fp):=hown
     have F8_5:Hid (NdOwn z8 sl u.t fp):=hown.own
     have Z8:Hid (z7.heap.size<=z8.heap.size/\∀i∈fp,z7.heap.size<=i/\i<z8.heap.size):=⟨hk2.size,hown.new⟩
     have K8:Hid (Kp w2 z8 Nul):=K7.out.trans hk2
     have F8_2:Hid (GridIn z8 (fun i=>z0.heap.size<=i/\i<z1.heap.size) g2 M0):=F7_2.out.kp hk2
     have F8_6:Hid (Blk z8 (z1.heap.size) [.pointer none] 24):=F7_6.out.kp hk2 (fun x=>x)
     refine hK.out _ _ K8.out (fun hHeld=>?_)
     clear hK K hk2 hown
     (try simp only[Act.put,Sz0,Sz1,Sz2])
     refine wpH_step (i:=7) (by kernel_rfl) rfl rfl (fun K hK=>?_)
     go_simp
     have hk2:Kp z8 (z8.alloc (.cells #[.int .i64 0,.int .i64 0,.float .f64 0,.string ⟨#[]⟩,.bool false,.int .i64 0,.int .i64 0,.int .i64 0,.float .f64 0,.string ⟨#[]⟩,.bool false,.int .i64 0,.int .i64 0,.int .i64 0,.bool false,.bool false,.int .i64 0,.int .i64 0,.bool false,.bool false,.slice none 0 0] 50)) Nul:=(Kp.refl z8 Nul).alloc _
     have hb2:Blk (z8.alloc (.cells #[.int .i64 0,.int .i64 0,.float .f64 0,.string ⟨#[]⟩,.bool false,.int .i64 0,.int .i64 0,.int .i64 0,.float .f64 0,.string ⟨#[]⟩,.bool false,.int .i64 0,.int .i64 0,.int .i64 0,.bool false,.bool false,.int .i64 0,.int .i64 0,.bool false,.bool false,.slice none 0 0] 50)) z8.heap.size [.int .i64 0,.int .i64 0,.float .f64 0,.string ⟨#[]⟩,.bool false,.int .i64 0,.int .i64 0,.int .i64 0,.float .f64 0,.string ⟨#[]⟩,.bool false,.int .i64 0,.int .i64 0,.int .i64 0,.bool false,.bool false,.int .i64 0,.int .i64 0,.bool false,.bool false,.slice none 0 0] 50:=Blk.new z8 [.int .i64 0,.int .i64 0,.float .f64 0,.string ⟨#[]⟩,.bool false,.int .i64 0,.int .i64 0,.int .i64 0,.float .f64 0,.string ⟨#[]⟩,.bool false,.int .i64 0,.int .i64 0,.int .i64 0,.bool false,.bool false,.int .i64 0,.int .i64 0,.bool false,.bool false,.slice none 0 0] 50
     have hs2:(z8.alloc (.cells #[.int .i64 0,.int .i64 0,.float .f64 0,.string ⟨#[]⟩,.bool false,.int .i64 0,.int .i64 0,.int .i64 0,.float .f64 0,.string ⟨#[]⟩,.bool false,.int .i64 0,.int .i64 0,.int .i64 0,.bool false,.bool false,.int .i64 0,.int .i64 0,.bool false,.bool false,.slice none 0 0] 50)).heap.size=z8.heap.size+1:=World.size_alloc _ _
     generalize z8.alloc (.cells #[.int .i64 0,.int .i64 0,.float .f64 0,.string ⟨#[]⟩,.bool false,.int .i64 0,.int .i64 0,.int .i64 0,.float .f64 0,.string ⟨#[]⟩,.bool false,.int .i64 0,.int .i64 0,.int .i64 0,.bool false,.bool false,.int .i64 0,.int .i64 0,.bool false,.bool false,.slice none 0 0] 50)=z9 at hk2 hb2 hs2 ⊢
     have F9_7:Hid (Blk z9 z8.heap.size [.int .i64 0,.int .i64 0,.float .f64 0,.string ⟨#[]⟩,.bool false,.int .i64 0,.int .i64 0,.int .i64 0,.float .f64 0,.string ⟨#[]⟩,.bool false,.int .i64 0,.int .i64 0,.int .i64 0,.bool false,.bool false,.int .i64 0,.int .i64 0,.bool false,.bool false,.slice none 0 0] 50):=hb2
     have Z9:Hid (z9.heap.size=z8.heap.size+1):=hs2
     have K9:Hid (Kp w2 z9 Nul):=K8.out.trans hk2
     have F9_2:Hid (GridIn z9 (fun i=>z0.heap.size<=i/\i<z1.heap.size) g2 M0):=F8_2.out.kp hk2
     have F9_5:Hid (NdOwn z9 sl u.t fp):=F8_5.out.mono (fun i hi=>hk2.block i (node_lt (F8_5.out.node i hi)) (fun x=>x))
     have F9_6:Hid (Blk z9 (z1.heap.size) [.pointer none] 24):=F8_6.out.kp hk2 (fun x=>x)
     refine hK.out _ _ K9.out (fun hHeld=>?_)
     clear hK K hk2 hb2 hs2
     (try simp only[Act.put,Sz0,Sz1,Sz2])
     have HSZ:Hid (z0.heap.size<=z1.heap.size/\z7.heap.size=z1.heap.size+1/\z7.heap.size<=z8.heap.size/\z9.heap.size=z8.heap.size+1/\w2.heap.size<=z0.heap.size):=⟨Z1.out,Z7.out,Z8.out.1,Z9.out,KU.out.size⟩
     refine wpH_step (i:=8) (by kernel_rfl) rfl rfl (fun K hK=>?_)
     refine wp_store_var 24 (.tmp 8) (.tmp 26) rfl (z1.heap.size) rfl (.pointer (some ⟨g2,0,none⟩)) rfl rfl 24 _ F9_6.out (by kernel_rfl) ?_
     intro Y hbY hkY
     have hSZ:=HSZ.out
     have hne:¬z8.heap.size=z1.heap.size:=by omega
     have hle6:w2.heap.size<=z1.heap.size:=by omega
     have hle7:w2.heap.size<=z8.heap.size:=by omega
     have KY:Hid (Kp w2 Y Nul):=K9.out.trans' hkY (fun i hi e=>by have e':i=z1.heap.size:=e;omega)
     have HC7:Hid (Blk Y (z8.heap.size) [.int .i64 0,.int .i64 0,.float .f64 0,.string ⟨#[]⟩,.bool false,.int .i64 0,.int .i64 0,.int .i64 0,.float .f64 0,.string ⟨#[]⟩,.bool false,.int .i64 0,.int .i64 0,.int .i64 0,.bool false,.bool false,.int .i64 0,.int .i64 0,.bool false,.bool false,.slice none 0 0] 50):=F9_7.out.kp hkY hne
     refine hK.out _ _ KY.out (fun hHeld=>?_)
     clear hK K
     (try simp only[Act.put])
     refine wpH_step (i:=9) (by kernel_rfl) rfl rfl (fun K hK=>?_)
     refine wp_store_blk 50 (.tmp 9) (.tmp 29) rfl (z8.heap.size) _ (u.cells sl) _ HC7.out rfl rfl rfl infoContent (u.one HOo.out.own.one) ?_
     intro Y2 hbY2 hkY2
     have KY2:Hid (Kp w2 Y2 Nul):=KY.out.trans' hkY2 (fun i hi e=>by have e':i=z8.heap.size:=e;omega)
     have HFin:Hid (FlB w2 Y2 (z1.heap.size) (z8.heap.size) g2 (fun i=>z0.heap.size<=i/\i<z1.heap.size) L M0 A1 A2 A3 A4 u sl fp):=by
      have hgi:=F9_2.out
      have hy1:=hkY.size
      have hy2:=hkY2.size
      refine⟨(hgi.far' hkY (fun i hi e=>by have e':i=z1.heap.size:=e;omega)).far' hkY2 (fun i hi e=>by have e':i=z8.heap.size:=e;omega),fun i hi=>⟨by omega,by omega,by omega,by omega,fun e=>by have:=HOo.out.new i e;omega⟩,HMem.out,HOkM.out,?_,hbY.kp hkY2 (by show ¬_=_;omega),hbY2,KY2.out⟩
      have hno:=F9_5.out
      exact(hno.mono (fun i hi=>hkY.block i (node_lt (hno.node i hi)) (fun e=>by have e':i=z1.heap.size:=e;have:=HOo.out.new i hi;omega))).mono (fun i hi=>hkY2.block i (Nat.lt_of_lt_of_le (node_lt (hno.node i hi)) hy1) (fun e=>by have e':i=z8.heap.size:=e;have:=HOo.out.new i hi;omega))
     refine hK.out _ _ KY2.out (fun _=>?_)
     clear hK K hHeld hbY hkY hbY2 hkY2 hSZ hne hle6 hle7
     (try simp only[Act.put])
     refine wpAnyH_done (by kernel_rfl) ?_ _
     refine NoPanic.normal ?_
     go_wp2_with fail
     go_meet
     case rel=>exact⟨_,_,g2,_,M0,sl,fp,rfl,rfl,HFin.out⟩
    obtain rfl:=List.mem_singleton.1 hj
    clear hj
    refine wpH_at (i:=7) rfl rfl (fun K hK=>?_)
    go_simp
    have hk2:Kp z7 (z7.alloc (.cells #[.int .i64 0,.int .i64 0,.float .f64 0,.string ⟨#[]⟩,.bool false,.int .i64 0,.int .i64 0,.int .i64 0,.float .f64 0,.string ⟨#[]⟩,.bool false,.int .i64 0,.int .i64 0,.int .i64 0,.bool false,.bool false,.int .i64 0,.int .i64 0,.bool false,.bool false,.slice none 0 0] 50)) Nul:=(Kp.refl z7 Nul).alloc _
    have hb2:Blk (z7.alloc (.cells #[.int .i64 0,.int .i64 0,.float .f64 0,.string ⟨#[]⟩,.bool false,.int .i64 0,.int .i64 0,.int .i64 0,.float .f64 0,.string ⟨#[]⟩,.bool false,.int .i64 0,.int .i64 0,.int .i64 0,.bool false,.bool false,.int .i64 0,.int .i64 0,.bool false,.bool false,.slice none 0 0] 50)) z7.heap.size [.int .i64 0,.int .i64 0,.float .f64 0,.string ⟨#[]⟩,.bool false,.int .i64 0,.int .i64 0,.int .i64 0,.float .f64 0,.string ⟨#[]⟩,.bool false,.int .i64 0,.int .i64 0,.int .i64 0,.bool false,.bool false,.int .i64 0,.int .i64 0,.bool false,.bool false,.slice none 0 0] 50:=Blk.new z7 [.int .i64 0,.int .i64 0,.float .f64 0,.string ⟨#[]⟩,.bool false,.int .i64 0,.int .i64 0,.int .i64 0,.float .f64 0,.string ⟨#[]⟩,.bool false,.int .i64 0,.int .i64 0,.int .i64 0,.bool false,.bool false,.int .i64 0,.int .i64 0,.bool false,.bool false,.slice none 0 0] 50
    have hs2:(z7.alloc (.cells #[.int .i64 0,.int .i64 0,.float .f64 0,.string ⟨#[]⟩,.bool false,.int .i64 0,.int .i64 0,.int .i64 0,.float .f64 0,.string ⟨#[]⟩,.bool false,.int .i64 0,.int .i64 0,.int .i64 0,.bool false,.bool false,.int .i64 0,.int .i64 0,.bool false,.bool false,.slice none 0 0] 50)).heap.size=z7.heap.size+1:=World.size_alloc _ _
    generalize z7.alloc (.cells #[.int .i64 0,.int .i64 0,.float .f64 0,.string ⟨#[]⟩,.bool false,.int .i64 0,.int .i64 0,.int .i64 0,.float .f64 0,.string ⟨#[]⟩,.bool false,.int .i64 0,.int .i64 0,.int .i64 0,.bool false,.bool false,.int .i64 0,.int .i64 0,.bool false,.bool false,.slice none 0 0] 50)=z10 at hk2 hb2 hs2 ⊢
    have F10_7:Hid (Blk z10 z7.heap.size [.int .i64 0,.int .i64 0,.float .f64 0,.string ⟨#[]⟩,.bool false,.int .i64 0,.int .i64 0,.int .i64 0,.float .f64 0,.string ⟨#[]⟩,.bool false,.int .i64 0,.int .i64 0,.int .i64 0,.bool false,.bool false,.int .i64 0,.int .i64 0,.bool false,.bool false,.slice none 0 0] 50):=hb2
    have Z10:Hid (z10.heap.size=z7.heap.size+1):=hs2
    have K10:Hid (Kp w2 z10 Nul):=K7.out.trans hk2
    have F10_2:Hid (GridIn z10 (fun i=>z0.heap.size<=i/\i<z1.heap.size) g2 M0):=F7_2.out.kp hk2
    have F10_6:Hid (Blk z10 (z1.heap.size) [.pointer none] 24):=F7_6.out.kp hk2 (fun x=>x)
    refine hK.out _ _ K10.out (fun hHeld=>?_)
    clear hK K hk2 hb2 hs2
    (try simp only[Act.put,Sz0,Sz1,Sz2])
    refine wpH_step (i:=5) (by kernel_rfl) rfl rfl (fun K hK=>?_)
    go_simp
    refine(HGt.out _ (HWB.out.trans K10.out)).mono ?_
    rintro e z11 ⟨sl,fp,rfl,hown,hk2⟩
    have HOo:Hid (Own z11 z10.heap.size sl u.t fp):=hown
    have F11_5:Hid (NdOwn z11 sl u.t fp):=hown.own
    have Z11:Hid (z10.heap.size<=z11.heap.size/\∀i∈fp,z10.heap.size<=i/\i<z11.heap.size):=⟨hk2.size,hown.new⟩
    have K11:Hid (Kp w2 z11 Nul):=K10.out.trans hk2
    have F11_2:Hid (GridIn z11 (fun i=>z0.heap.size<=i/\i<z1.heap.size) g2 M0):=F10_2.out.kp hk2
    have F11_6:Hid (Blk z11 (z1.heap.size) [.pointer none] 24):=F10_6.out.kp hk2 (fun x=>x)
    have F11_7:Hid (Blk z11 (z7.heap.size) [.int .i64 0,.int .i64 0,.float .f64 0,.string ⟨#[]⟩,.bool false,.int .i64 0,.int .i64 0,.int .i64 0,.float .f64 0,.string ⟨#[]⟩,.bool false,.int .i64 0,.int .i64 0,.int .i64 0,.bool false,.bool false,.int .i64 0,.int .i64 0,.bool false,.bool false,.slice none 0 0] 50):=F10_7.out.kp hk2 (fun x=>x)
    refine hK.out _ _ K11.out (fun hHeld=>?_)
    clear hK K hk2 hown
    (try simp only[Act.put,Sz0,Sz1,Sz2])
    have HSZ:Hid (z0.heap.size<=z1.heap.size/\z7.heap.size=z1.heap.size+1/\z10.heap.size=z7.heap.size+1/\z10.heap.size<=z11.heap.size/\w2.heap.size<=z0.heap.size):=⟨Z1.out,Z7.out,Z10.out,Z11.out.1,KU.out.size⟩
    refine wpH_step (i:=8) (by kernel_rfl) rfl rfl (fun K hK=>?_)
    refine wp_store_var 24 (.tmp 8) (.tmp 26) rfl (z1.heap.size) rfl (.pointer (some ⟨g2,0,none⟩)) rfl rfl 24 _ F11_6.out (by kernel_rfl) ?_
    intro Y hbY hkY
    have hSZ:=HSZ.out
    have hne:¬z7.heap.size=z1.heap.size:=by omega
    have hle6:w2.heap.size<=z1.heap.size:=by omega
    have hle7:w2.heap.size<=z7.heap.size:=by omega
    have KY:Hid (Kp w2 Y Nul):=K11.out.trans' hkY (fun i hi e=>by have e':i=z1.heap.size:=e;omega)
    have HC7:Hid (Blk Y (z7.heap.size) [.int .i64 0,.int .i64 0,.float .f64 0,.string ⟨#[]⟩,.bool false,.int .i64 0,.int .i64 0,.int .i64 0,.float .f64 0,.string ⟨#[]⟩,.bool false,.int .i64 0,.int .i64 0,.int .i64 0,.bool false,.bool false,.int .i64 0,.int .i64 0,.bool false,.bool false,.slice none 0 0] 50):=F11_7.out.kp hkY hne
    refine hK.out _ _ KY.out (fun hHeld=>?_)
    clear hK K
    (try simp only[Act.put])
    refine wpH_step (i:=9) (by kernel_rfl) rfl rfl (fun K hK=>?_)
    refine wp_store_blk 50 (.tmp 9) (.tmp 29) rfl (z7.heap.size) _ (u.cells sl) _ HC7.out rfl rfl rfl infoContent (u.one HOo.out.own.one) ?_
    intro Y2 hbY2 hkY2
    have KY2:Hid (Kp w2 Y2 Nul):=KY.out.trans' hkY2 (fun i hi e=>by have e':i=z7.heap.size:=e;omega)
    have HFin:Hid (FlB w2 Y2 (z1.heap.size) (z7.heap.size) g2 (fun i=>z0.heap.size<=i/\i<z1.heap.size) L M0 A1 A2 A3 A4 u sl fp):=by
     have hgi:=F11_2.out
     have hy1:=hkY.size
     have hy2:=hkY2.size
     refine⟨(hgi.far' hkY (fun i hi e=>by have e':i=z1.heap.size:=e;omega)).far' hkY2 (fun i hi e=>by have e':i=z7.heap.size:=e;omega),fun i hi=>⟨by omega,by omega,by omega,by omega,fun e=>by have:=HOo.out.new i e;omega⟩,HMem.out,HOkM.out,?_,hbY.kp hkY2 (by show ¬_=_;omega),hbY2,KY2.out⟩
     have hno:=F11_5.out
     exact(hno.mono (fun i hi=>hkY.block i (node_lt (hno.node i hi)) (fun e=>by have e':i=z1.heap.size:=e;have:=HOo.out.new i hi;omega))).mono (fun i hi=>hkY2.block i (Nat.lt_of_lt_of_le (node_lt (hno.node i hi)) hy1) (fun e=>by have e':i=z7.heap.size:=e;have:=HOo.out.new i hi;omega))
    refine hK.out _ _ KY2.out (fun _=>?_)
    clear hK K hHeld hbY hkY hbY2 hkY2 hSZ hne hle6 hle7
    (try simp only[Act.put])
    refine wpAnyH_done (by kernel_rfl) ?_ _
    refine NoPanic.normal ?_
    go_wp2_with fail
    go_meet
    case rel=>exact⟨_,_,g2,_,M0,sl,fp,rfl,rfl,HFin.out⟩
   obtain rfl:=List.mem_singleton.1 hj
   clear hj
   refine wpH_at (i:=7) rfl rfl (fun K hK=>?_)
   go_simp
   have hk2:Kp z1 (z1.alloc (.cells #[.int .i64 0,.int .i64 0,.float .f64 0,.string ⟨#[]⟩,.bool false,.int .i64 0,.int .i64 0,.int .i64 0,.float .f64 0,.string ⟨#[]⟩,.bool false,.int .i64 0,.int .i64 0,.int .i64 0,.bool false,.bool false,.int .i64 0,.int .i64 0,.bool false,.bool false,.slice none 0 0] 50)) Nul:=(Kp.refl z1 Nul).alloc _
   have hb2:Blk (z1.alloc (.cells #[.int .i64 0,.int .i64 0,.float .f64 0,.string ⟨#[]⟩,.bool false,.int .i64 0,.int .i64 0,.int .i64 0,.float .f64 0,.string ⟨#[]⟩,.bool false,.int .i64 0,.int .i64 0,.int .i64 0,.bool false,.bool false,.int .i64 0,.int .i64 0,.bool false,.bool false,.slice none 0 0] 50)) z1.heap.size [.int .i64 0,.int .i64 0,.float .f64 0,.string ⟨#[]⟩,.bool false,.int .i64 0,.int .i64 0,.int .i64 0,.float .f64 0,.string ⟨#[]⟩,.bool false,.int .i64 0,.int .i64 0,.int .i64 0,.bool false,.bool false,.int .i64 0,.int .i64 0,.bool false,.bool false,.slice none 0 0] 50:=Blk.new z1 [.int .i64 0,.int .i64 0,.float .f64 0,.string ⟨#[]⟩,.bool false,.int .i64 0,.int .i64 0,.int .i64 0,.float .f64 0,.string ⟨#[]⟩,.bool false,.int .i64 0,.int .i64 0,.int .i64 0,.bool false,.bool false,.int .i64 0,.int .i64 0,.bool false,.bool false,.slice none 0 0] 50
   have hs2:(z1.alloc (.cells #[.int .i64 0,.int .i64 0,.float .f64 0,.string ⟨#[]⟩,.bool false,.int .i64 0,.int .i64 0,.int .i64 0,.float .f64 0,.string ⟨#[]⟩,.bool false,.int .i64 0,.int .i64 0,.int .i64 0,.bool false,.bool false,.int .i64 0,.int .i64 0,.bool false,.bool false,.slice none 0 0] 50)).heap.size=z1.heap.size+1:=World.size_alloc _ _
   generalize z1.alloc (.cells #[.int .i64 0,.int .i64 0,.float .f64 0,.string ⟨#[]⟩,.bool false,.int .i64 0,.int .i64 0,.int .i64 0,.float .f64 0,.string ⟨#[]⟩,.bool false,.int .i64 0,.int .i64 0,.int .i64 0,.bool false,.bool false,.int .i64 0,.int .i64 0,.bool false,.bool false,.slice none 0 0] 50)=z12 at hk2 hb2 hs2 ⊢
   have F12_7:Hid (Blk z12 z1.heap.size [.int .i64 0,.int .i64 0,.float .f64 0,.string ⟨#[]⟩,.bool false,.int .i64 0,.int .i64 0,.int .i64 0,.float .f64 0,.string ⟨#[]⟩,.bool false,.int .i64 0,.int .i64 0,.int .i64 0,.bool false,.bool false,.int .i64 0,.int .i64 0,.bool false,.bool false,.slice none 0 0] 50):=hb2
   have Z12:Hid (z12.heap.size=z1.heap.size+1):=hs2
   have K12:Hid (Kp w2 z12 Nul):=K1.out.trans hk2
   have F12_2:Hid (GridIn z12 (fun i=>z0.heap.size<=i/\i<z1.heap.size) g2 M0):=F1_2.out.kp hk2
   refine hK.out _ _ K12.out (fun hHeld=>?_)
   clear hK K hk2 hb2 hs2
   (try simp only[Act.put,Sz0,Sz1,Sz2])
   refine wpAnyH_all (rs:=[5,6]) (by kernel_rfl) (by simp) (fun j hj=>?_)
   rcases List.mem_cons.1 hj with rfl|hj
   ·clear hj
    refine wpH_at (i:=5) rfl rfl (fun K hK=>?_)
    go_simp
    refine(HGt.out _ (HWB.out.trans K12.out)).mono ?_
    rintro e z13 ⟨sl,fp,rfl,hown,hk2⟩
    have HOo:Hid (Own z13 z12.heap.size sl u.t fp):=hown
    have F13_5:Hid (NdOwn z13 sl u.t fp):=hown.own
    have Z13:Hid (z12.heap.size<=z13.heap.size/\∀i∈fp,z12.heap.size<=i/\i<z13.heap.size):=⟨hk2.size,hown.new⟩
    have K13:Hid (Kp w2 z13 Nul):=K12.out.trans hk2
    have F13_2:Hid (GridIn z13 (fun i=>z0.heap.size<=i/\i<z1.heap.size) g2 M0):=F12_2.out.kp hk2
    have F13_7:Hid (Blk z13 (z1.heap.size) [.int .i64 0,.int .i64 0,.float .f64 0,.string ⟨#[]⟩,.bool false,.int .i64 0,.int .i64 0,.int .i64 0,.float .f64 0,.string ⟨#[]⟩,.bool false,.int .i64 0,.int .i64 0,.int .i64 0,.bool false,.bool false,.int .i64 0,.int .i64 0,.bool false,.bool false,.slice none 0 0] 50):=F12_7.out.kp hk2 (fun x=>x)
    refine hK.out _ _ K13.out (fun hHeld=>?_)
    clear hK K hk2 hown
    (try simp only[Act.put,Sz0,Sz1,Sz2])
    refine wpH_step (i:=6) (by kernel_rfl) rfl rfl (fun K hK=>?_)
    go_simp
    have hk2:Kp z13 (z13.alloc (.cells #[.pointer none] 24)) Nul:=(Kp.refl z13 Nul).alloc _
    have hb2:Blk (z13.alloc (.cells #[.pointer none] 24)) z13.heap.size [.pointer none] 24:=Blk.new z13 [.pointer none] 24
    have hs2:(z13.alloc (.cells #[.pointer none] 24)).heap.size=z13.heap.size+1:=World.size_alloc _ _
    generalize z13.alloc (.cells #[.pointer none] 24)=z14 at hk2 hb2 hs2 ⊢
    have F14_6:Hid (Blk z14 z13.heap.size [.pointer none] 24):=hb2
    have Z14:Hid (z14.heap.size=z13.heap.size+1):=hs2
    have K14:Hid (Kp w2 z14 Nul):=K13.out.trans hk2
    have F14_2:Hid (GridIn z14 (fun i=>z0.heap.size<=i/\i<z1.heap.size) g2 M0):=F13_2.out.kp hk2
    have F14_5:Hid (NdOwn z14 sl u.t fp):=F13_5.out.mono (fun i hi=>hk2.block i (node_lt (F13_5.out.node i hi)) (fun x=>x))
    have F14_7:Hid (Blk z14 (z1.heap.size) [.int .i64 0,.int .i64 0,.float .f64 0,.string ⟨#[]⟩,.bool false,.int .i64 0,.int .i64 0,.int .i64 0,.float .f64 0,.string ⟨#[]⟩,.bool false,.int .i64 0,.int .i64 0,.int .i64 0,.bool false,.bool false,.int .i64 0,.int .i64 0,.bool false,.bool false,.slice none 0 0] 50):=F13_7.out.kp hk2 (fun x=>x)
    refine hK.out _ _ K14.out (fun hHeld=>?_)
    clear hK K hk2 hb2 hs2
    (try simp only[Act.put,Sz0,Sz1,Sz2])
    have HSZ:Hid (z0.heap.size<=z1.heap.size/\z12.heap.size=z1.heap.size+1/\z12.heap.size<=z13.heap.size/\z14.heap.size=z13.heap.size+1/\w2.heap.size<=z0.heap.size):=⟨Z1.out,Z12.out,Z13.out.1,Z14.out,KU.out.size⟩
    refine wpH_step (i:=8) (by kernel_rfl) rfl rfl (fun K hK=>?_)
    refine wp_store_var 24 (.tmp 8) (.tmp 26) rfl (z13.heap.size) rfl (.pointer (some ⟨g2,0,none⟩)) rfl rfl 24 _ F14_6.out (by kernel_rfl) ?_
    intro Y hbY hkY
    have hSZ:=HSZ.out
    have hne:¬z1.heap.size=z13.heap.size:=by omega
    have hle6:w2.heap.size<=z13.heap.size:=by omega
    have hle7:w2.heap.size<=z1.heap.size:=by omega
    have KY:Hid (Kp w2 Y Nul):=K14.out.trans' hkY (fun i hi e=>by have e':i=z13.heap.size:=e;omega)
    have HC7:Hid (Blk Y (z1.heap.size) [.int .i64 0,.int .i64 0,.float .f64 0,.string ⟨#[]⟩,.bool false,.int .i64 0,.int .i64 0,.int .i64 0,.float .f64 0,.string ⟨#[]⟩,.bool false,.int .i64 0,.int .i64 0,.int .i64 0,.bool false,.bool false,.int .i64 0,.int .i64 0,.bool false,.bool false,.slice none 0 0] 50):=F14_7.out.kp hkY hne
    refine hK.out _ _ KY.out (fun hHeld=>?_)
    clear hK K
    (try simp only[Act.put])
    refine wpH_step (i:=9) (by kernel_rfl) rfl rfl (fun K hK=>?_)
    refine wp_store_blk 50 (.tmp 9) (.tmp 29) rfl (z1.heap.size) _ (u.cells sl) _ HC7.out rfl rfl rfl infoContent (u.one HOo.out.own.one) ?_
    intro Y2 hbY2 hkY2
    have KY2:Hid (Kp w2 Y2 Nul):=KY.out.trans' hkY2 (fun i hi e=>by have e':i=z1.heap.size:=e;omega)
    have HFin:Hid (FlB w2 Y2 (z13.heap.size) (z1.heap.size) g2 (fun i=>z0.heap.size<=i/\i<z1.heap.size) L M0 A1 A2 A3 A4 u sl fp):=by
     have hgi:=F14_2.out
     have hy1:=hkY.size
     have hy2:=hkY2.size
     refine⟨(hgi.far' hkY (fun i hi e=>by have e':i=z13.heap.size:=e;omega)).far' hkY2 (fun i hi e=>by have e':i=z1.heap.size:=e;omega),fun i hi=>⟨by omega,by omega,by omega,by omega,fun e=>by have:=HOo.out.new i e;omega⟩,HMem.out,HOkM.out,?_,hbY.kp hkY2 (by show ¬_=_;omega),hbY2,KY2.out⟩
     have hno:=F14_5.out
     exact(hno.mono (fun i hi=>hkY.block i (node_lt (hno.node i hi)) (fun e=>by have e':i=z13.heap.size:=e;have:=HOo.out.new i hi;omega))).mono (fun i hi=>hkY2.block i (Nat.lt_of_lt_of_le (node_lt (hno.node i hi)) hy1) (fun e=>by have e':i=z1.heap.size:=e;have:=HOo.out.new i hi;omega))
    refine hK.out _ _ KY2.out (fun _=>?_)
    clear hK K hHeld hbY hkY hbY2 hkY2 hSZ hne hle6 hle7
    (try simp only[Act.put])
    refine wpAnyH_done (by kernel_rfl) ?_ _
    refine NoPanic.normal ?_
    go_wp2_with fail
    go_meet
    case rel=>exact⟨_,_,g2,_,M0,sl,fp,rfl,rfl,HFin.out⟩
   obtain rfl:=List.mem_singleton.1 hj
   clear hj
   refine wpH_at (i:=6) rfl rfl (fun K hK=>?_)
   go_simp
   have hk2:Kp z12 (z12.alloc (.cells #[.pointer none] 24)) Nul:=(Kp.refl z12 Nul).alloc _
   have hb2:Blk (z12.alloc (.cells #[.pointer none] 24)) z12.heap.size [.pointer none] 24:=Blk.new z12 [.pointer none] 24
   have hs2:(z12.alloc (.cells #[.pointer none] 24)).heap.size=z12.heap.size+1:=World.size_alloc _ _
   generalize z12.alloc (.cells #[.pointer none] 24)=z15 at hk2 hb2 hs2 ⊢
   have F15_6:Hid (Blk z15 z12.heap.size [.pointer none] 24):=hb2
   have Z15:Hid (z15.heap.size=z12.heap.size+1):=hs2
   have K15:Hid (Kp w2 z15 Nul):=K12.out.trans hk2
   have F15_2:Hid (GridIn z15 (fun i=>z0.heap.size<=i/\i<z1.heap.size) g2 M0):=F12_2.out.kp hk2
   have F15_7:Hid (Blk z15 (z1.heap.size) [.int .i64 0,.int .i64 0,.float .f64 0,.string ⟨#[]⟩,.bool false,.int .i64 0,.int .i64 0,.int .i64 0,.float .f64 0,.string ⟨#[]⟩,.bool false,.int .i64 0,.int .i64 0,.int .i64 0,.bool false,.bool false,.int .i64 0,.int .i64 0,.bool false,.bool false,.slice none 0 0] 50):=F12_7.out.kp hk2 (fun x=>x)
   refine hK.out _ _ K15.out (fun hHeld=>?_)
   clear hK K hk2 hb2 hs2
   (try simp only[Act.put,Sz0,Sz1,Sz2])
   refine wpH_step (i:=5) (by kernel_rfl) rfl rfl (fun K hK=>?_)
   go_simp
   refine(HGt.out _ (HWB.out.trans K15.out)).mono ?_
   rintro e z16 ⟨sl,fp,rfl,hown,hk2⟩
   have HOo:Hid (Own z16 z15.heap.size sl u.t fp):=hown
   have F16_5:Hid (NdOwn z16 sl u.t fp):=hown.own
   have Z16:Hid (z15.heap.size<=z16.heap.size/\∀i∈fp,z15.heap.size<=i/\i<z16.heap.size):=⟨hk2.size,hown.new⟩
   have K16:Hid (Kp w2 z16 Nul):=K15.out.trans hk2
   have F16_2:Hid (GridIn z16 (fun i=>z0.heap.size<=i/\i<z1.heap.size) g2 M0):=F15_2.out.kp hk2
   have F16_6:Hid (Blk z16 (z12.heap.size) [.pointer none] 24):=F15_6.out.kp hk2 (fun x=>x)
   have F16_7:Hid (Blk z16 (z1.heap.size) [.int .i64 0,.int .i64 0,.float .f64 0,.string ⟨#[]⟩,.bool false,.int .i64 0,.int .i64 0,.int .i64 0,.float .f64 0,.string ⟨#[]⟩,.bool false,.int .i64 0,.int .i64 0,.int .i64 0,.bool false,.bool false,.int .i64 0,.int .i64 0,.bool false,.bool false,.slice none 0 0] 50):=F15_7.out.kp hk2 (fun x=>x)
   refine hK.out _ _ K16.out (fun hHeld=>?_)
   clear hK K hk2 hown
   (try simp only[Act.put,Sz0,Sz1,Sz2])
   have HSZ:Hid (z0.heap.size<=z1.heap.size/\z12.heap.size=z1.heap.size+1/\z15.heap.size=z12.heap.size+1/\z15.heap.size<=z16.heap.size/\w2.heap.size<=z0.heap.size):=⟨Z1.out,Z12.out,Z15.out,Z16.out.1,KU.out.size⟩
   refine wpH_step (i:=8) (by kernel_rfl) rfl rfl (fun K hK=>?_)
   refine wp_store_var 24 (.tmp 8) (.tmp 26) rfl (z12.heap.size) rfl (.pointer (some ⟨g2,0,none⟩)) rfl rfl 24 _ F16_6.out (by kernel_rfl) ?_
   intro Y hbY hkY
   have hSZ:=HSZ.out
   have hne:¬z1.heap.size=z12.heap.size:=by omega
   have hle6:w2.heap.size<=z12.heap.size:=by omega
   have hle7:w2.heap.size<=z1.heap.size:=by omega
   have KY:Hid (Kp w2 Y Nul):=K16.out.trans' hkY (fun i hi e=>by have e':i=z12.heap.size:=e;omega)
   have HC7:Hid (Blk Y (z1.heap.size) [.int .i64 0,.int .i64 0,.float .f64 0,.string ⟨#[]⟩,.bool false,.int .i64 0,.int .i64 0,.int .i64 0,.float .f64 0,.string ⟨#[]⟩,.bool false,.int .i64 0,.int .i64 0,.int .i64 0,.bool false,.bool false,.int .i64 0,.int .i64 0,.bool false,.bool false,.slice none 0 0] 50):=F16_7.out.kp hkY hne
   refine hK.out _ _ KY.out (fun hHeld=>?_)
   clear hK K
   (try simp only[Act.put])
   refine wpH_step (i:=9) (by kernel_rfl) rfl rfl (fun K hK=>?_)
   refine wp_store_blk 50 (.tmp 9) (.tmp 29) rfl (z1.heap.size) _ (u.cells sl) _ HC7.out rfl rfl rfl infoContent (u.one HOo.out.own.one) ?_
   intro Y2 hbY2 hkY2
   have KY2:Hid (Kp w2 Y2 Nul):=KY.out.trans' hkY2 (fun i hi e=>by have e':i=z1.heap.size:=e;omega)
   have HFin:Hid (FlB w2 Y2 (z12.heap.size) (z1.heap.size) g2 (fun i=>z0.heap.size<=i/\i<z1.heap.size) L M0 A1 A2 A3 A4 u sl fp):=by
    have hgi:=F16_2.out
    have hy1:=hkY.size
    have hy2:=hkY2.size
    refine⟨(hgi.far' hkY (fun i hi e=>by have e':i=z12.heap.size:=e;omega)).far' hkY2 (fun i hi e=>by have e':i=z1.heap.size:=e;omega),fun i hi=>⟨by omega,by omega,by omega,by omega,fun e=>by have:=HOo.out.new i e;omega⟩,HMem.out,HOkM.out,?_,hbY.kp hkY2 (by show ¬_=_;omega),hbY2,KY2.out⟩
    have hno:=F16_5.out
    exact(hno.mono (fun i hi=>hkY.block i (node_lt (hno.node i hi)) (fun e=>by have e':i=z12.heap.size:=e;have:=HOo.out.new i hi;omega))).mono (fun i hi=>hkY2.block i (Nat.lt_of_lt_of_le (node_lt (hno.node i hi)) hy1) (fun e=>by have e':i=z1.heap.size:=e;have:=HOo.out.new i hi;omega))
   refine hK.out _ _ KY2.out (fun _=>?_)
   clear hK K hHeld hbY hkY hbY2 hkY2 hSZ hne hle6 hle7
   (try simp only[Act.put])
   refine wpAnyH_done (by kernel_rfl) ?_ _
   refine NoPanic.normal ?_
   go_wp2_with fail
   go_meet
   case rel=>exact⟨_,_,g2,_,M0,sl,fp,rfl,rfl,HFin.out⟩
  rcases List.mem_cons.1 hj with rfl|hj
  ·clear hj
   refine wpH_at (i:=6) rfl rfl (fun K hK=>?_)
   go_simp
   have hk2:Kp z0 (z0.alloc (.cells #[.pointer none] 24)) Nul:=(Kp.refl z0 Nul).alloc _
   have hb2:Blk (z0.alloc (.cells #[.pointer none] 24)) z0.heap.size [.pointer none] 24:=Blk.new z0 [.pointer none] 24
   have hs2:(z0.alloc (.cells #[.pointer none] 24)).heap.size=z0.heap.size+1:=World.size_alloc _ _
   generalize z0.alloc (.cells #[.pointer none] 24)=z17 at hk2 hb2 hs2 ⊢
   have F17_6:Hid (Blk z17 z0.heap.size [.pointer none] 24):=hb2
   have Z17:Hid (z17.heap.size=z0.heap.size+1):=hs2
   have K17:Hid (Kp w2 z17 Nul):=KU.out.trans hk2
   refine hK.out _ _ K17.out (fun hHeld=>?_)
   clear hK K hk2 hb2 hs2
   (try simp only[Act.put,Sz0,Sz1,Sz2])
   refine wpAnyH_all (rs:=[2,7]) (by kernel_rfl) (by simp) (fun j hj=>?_)
   rcases List.mem_cons.1 hj with rfl|hj
   ·clear hj
    refine wpH_at (i:=2) rfl rfl (fun K hK=>?_)
    go_simp
    refine(HWo.out _ (HWB.out.trans K17.out)).mono ?_
    rintro e z18 ⟨g2,M0,rfl,hgi,hok,hmem,_,hk2⟩
    have HMem:Hid (∀y,y∈M0↔y∈L/\y∉inL A1 A2 A3 A4 L):=hmem
    have HOkM:Hid (Ok17 M0):=hok
    have F18_2:Hid (GridIn z18 (fun i=>z17.heap.size<=i/\i<z18.heap.size) g2 M0):=hgi.lows
    have Z18:Hid (z17.heap.size<=z18.heap.size):=hk2.size
    have K18:Hid (Kp w2 z18 Nul):=K17.out.trans hk2
    have F18_6:Hid (Blk z18 (z0.heap.size) [.pointer none] 24):=F17_6.out.kp hk2 (fun x=>x)
    refine hK.out _ _ K18.out (fun hHeld=>?_)
    clear hK K hk2 hgi hok hmem
    (try simp only[Act.put,Sz0,Sz1,Sz2])
    refine wpAnyH_all (rs:=[5,7]) (by kernel_rfl) (by simp) (fun j hj=>?_)
    rcases List.mem_cons.1 hj with rfl|hj
    ·clear hj
     refine wpH_at (i:=5) rfl rfl (fun K hK=>?_)
     go_simp
     refine(HGt.out _ (HWB.out.trans K18.out)).mono ?_
     rintro e z19 ⟨sl,fp,rfl,hown,hk2⟩
     have HOo:Hid (Own z19 z18.heap.size sl u.t fp):=hown
     have F19_5:Hid (NdOwn z19 sl u.t fp):=hown.own
     have Z19:Hid (z18.heap.size<=z19.heap.size/\∀i∈fp,z18.heap.size<=i/\i<z19.heap.size):=⟨hk2.size,hown.new⟩
     have K19:Hid (Kp w2 z19 Nul):=K18.out.trans hk2
     have F19_2:Hid (GridIn z19 (fun i=>z17.heap.size<=i/\i<z18.heap.size) g2 M0):=F18_2.out.kp hk2
     have F19_6:Hid (Blk z19 (z0.heap.size) [.pointer none] 24):=F18_6.out.kp hk2 (fun x=>x)
     refine hK.out _ _ K19.out (fun hHeld=>?_)
     clear hK K hk2 hown
     (try simp only[Act.put,Sz0,Sz1,Sz2])
     refine wpH_step (i:=7) (by kernel_rfl) rfl rfl (fun K hK=>?_)
     go_simp
     have hk2:Kp z19 (z19.alloc (.cells #[.int .i64 0,.int .i64 0,.float .f64 0,.string ⟨#[]⟩,.bool false,.int .i64 0,.int .i64 0,.int .i64 0,.float .f64 0,.string ⟨#[]⟩,.bool false,.int .i64 0,.int .i64 0,.int .i64 0,.bool false,.bool false,.int .i64 0,.int .i64 0,.bool false,.bool false,.slice none 0 0] 50)) Nul:=(Kp.refl z19 Nul).alloc _
     have hb2:Blk (z19.alloc (.cells #[.int .i64 0,.int .i64 0,.float .f64 0,.string ⟨#[]⟩,.bool false,.int .i64 0,.int .i64 0,.int .i64 0,.float .f64 0,.string ⟨#[]⟩,.bool false,.int .i64 0,.int .i64 0,.int .i64 0,.bool false,.bool false,.int .i64 0,.int .i64 0,.bool false,.bool false,.slice none 0 0] 50)) z19.heap.size [.int .i64 0,.int .i64 0,.float .f64 0,.string ⟨#[]⟩,.bool false,.int .i64 0,.int .i64 0,.int .i64 0,.float .f64 0,.string ⟨#[]⟩,.bool false,.int .i64 0,.int .i64 0,.int .i64 0,.bool false,.bool false,.int .i64 0,.int .i64 0,.bool false,.bool false,.slice none 0 0] 50:=Blk.new z19 [.int .i64 0,.int .i64 0,.float .f64 0,.string ⟨#[]⟩,.bool false,.int .i64 0,.int .i64 0,.int .i64 0,.float .f64 0,.string ⟨#[]⟩,.bool false,.int .i64 0,.int .i64 0,.int .i64 0,.bool false,.bool false,.int .i64 0,.int .i64 0,.bool false,.bool false,.slice none 0 0] 50
     have hs2:(z19.alloc (.cells #[.int .i64 0,.int .i64 0,.float .f64 0,.string ⟨#[]⟩,.bool false,.int .i64 0,.int .i64 0,.int .i64 0,.float .f64 0,.string ⟨#[]⟩,.bool false,.int .i64 0,.int .i64 0,.int .i64 0,.bool false,.bool false,.int .i64 0,.int .i64 0,.bool false,.bool false,.slice none 0 0] 50)).heap.size=z19.heap.size+1:=World.size_alloc _ _
     generalize z19.alloc (.cells #[.int .i64 0,.int .i64 0,.float .f64 0,.string ⟨#[]⟩,.bool false,.int .i64 0,.int .i64 0,.int .i64 0,.float .f64 0,.string ⟨#[]⟩,.bool false,.int .i64 0,.int .i64 0,.int .i64 0,.bool false,.bool false,.int .i64 0,.int .i64 0,.bool false,.bool false,.slice none 0 0] 50)=z20 at hk2 hb2 hs2 ⊢
     have F20_7:Hid (Blk z20 z19.heap.size [.int .i64 0,.int .i64 0,.float .f64 0,.string ⟨#[]⟩,.bool false,.int .i64 0,.int .i64 0,.int .i64 0,.float .f64 0,.string ⟨#[]⟩,.bool false,.int .i64 0,.int .i64 0,.int .i64 0,.bool false,.bool false,.int .i64 0,.int .i64 0,.bool false,.bool false,.slice none 0 0] 50):=hb2
     have Z20:Hid (z20.heap.size=z19.heap.size+1):=hs2
     have K20:Hid (Kp w2 z20 Nul):=K19.out.trans hk2
     have F20_2:Hid (GridIn z20 (fun i=>z17.heap.size<=i/\i<z18.heap.size) g2 M0):=F19_2.out.kp hk2
     have F20_5:Hid (NdOwn z20 sl u.t fp):=F19_5.out.mono (fun i hi=>hk2.block i (node_lt (F19_5.out.node i hi)) (fun x=>x))
     have F20_6:Hid (Blk z20 (z0.heap.size) [.pointer none] 24):=F19_6.out.kp hk2 (fun x=>x)
     refine hK.out _ _ K20.out (fun hHeld=>?_)
     clear hK K hk2 hb2 hs2
     (try simp only[Act.put,Sz0,Sz1,Sz2])
     have HSZ:Hid (z17.heap.size=z0.heap.size+1/\z17.heap.size<=z18.heap.size/\z18.heap.size<=z19.heap.size/\z20.heap.size=z19.heap.size+1/\w2.heap.size<=z0.heap.size):=⟨Z17.out,Z18.out,Z19.out.1,Z20.out,KU.out.size⟩
     refine wpH_step (i:=8) (by kernel_rfl) rfl rfl (fun K hK=>?_)
     refine wp_store_var 24 (.tmp 8) (.tmp 26) rfl (z0.heap.size) rfl (.pointer (some ⟨g2,0,none⟩)) rfl rfl 24 _ F20_6.out (by kernel_rfl) ?_
     intro Y hbY hkY
     have hSZ:=HSZ.out
     have hne:¬z19.heap.size=z0.heap.size:=by omega
     have hle6:w2.heap.size<=z0.heap.size:=by omega
     have hle7:w2.heap.size<=z19.heap.size:=by omega
     have KY:Hid (Kp w2 Y Nul):=K20.out.trans' hkY (fun i hi e=>by have e':i=z0.heap.size:=e;omega)
     have HC7:Hid (Blk Y (z19.heap.size) [.int .i64 0,.int .i64 0,.float .f64 0,.string ⟨#[]⟩,.bool false,.int .i64 0,.int .i64 0,.int .i64 0,.float .f64 0,.string ⟨#[]⟩,.bool false,.int .i64 0,.int .i64 0,.int .i64 0,.bool false,.bool false,.int .i64 0,.int .i64 0,.bool false,.bool false,.slice none 0 0] 50):=F20_7.out.kp hkY hne
     refine hK.out _ _ KY.out (fun hHeld=>?_)
     clear hK K
     (try simp only[Act.put])
     refine wpH_step (i:=9) (by kernel_rfl) rfl rfl (fun K hK=>?_)
     refine wp_store_blk 50 (.tmp 9) (.tmp 29) rfl (z19.heap.size) _ (u.cells sl) _ HC7.out rfl rfl rfl infoContent (u.one HOo.out.own.one) ?_
     intro Y2 hbY2 hkY2
     have KY2:Hid (Kp w2 Y2 Nul):=KY.out.trans' hkY2 (fun i hi e=>by have e':i=z19.heap.size:=e;omega)
     have HFin:Hid (FlB w2 Y2 (z0.heap.size) (z19.heap.size) g2 (fun i=>z17.heap.size<=i/\i<z18.heap.size) L M0 A1 A2 A3 A4 u sl fp):=by
      have hgi:=F20_2.out
      have hy1:=hkY.size
      have hy2:=hkY2.size
      refine⟨(hgi.far' hkY (fun i hi e=>by have e':i=z0.heap.size:=e;omega)).far' hkY2 (fun i hi e=>by have e':i=z19.heap.size:=e;omega),fun i hi=>⟨by omega,by omega,by omega,by omega,fun e=>by have:=HOo.out.new i e;omega⟩,HMem.out,HOkM.out,?_,hbY.kp hkY2 (by show ¬_=_;omega),hbY2,KY2.out⟩
      have hno:=F20_5.out
      exact(hno.mono (fun i hi=>hkY.block i (node_lt (hno.node i hi)) (fun e=>by have e':i=z0.heap.size:=e;have:=HOo.out.new i hi;omega))).mono (fun i hi=>hkY2.block i (Nat.lt_of_lt_of_le (node_lt (hno.node i hi)) hy1) (fun e=>by have e':i=z19.heap.size:=e;have:=HOo.out.new i hi;omega))
     refine hK.out _ _ KY2.out (fun _=>?_)
     clear hK K hHeld hbY hkY hbY2 hkY2 hSZ hne hle6 hle7
     (try simp only[Act.put])
     refine wpAnyH_done (by kernel_rfl) ?_ _
     refine NoPanic.normal ?_
     go_wp2_with fail
     go_meet
     case rel=>exact⟨_,_,g2,_,M0,sl,fp,rfl,rfl,HFin.out⟩
    obtain rfl:=List.mem_singleton.1 hj
    clear hj
    refine wpH_at (i:=7) rfl rfl (fun K hK=>?_)
    go_simp
    have hk2:Kp z18 (z18.alloc (.cells #[.int .i64 0,.int .i64 0,.float .f64 0,.string ⟨#[]⟩,.bool false,.int .i64 0,.int .i64 0,.int .i64 0,.float .f64 0,.string ⟨#[]⟩,.bool false,.int .i64 0,.int .i64 0,.int .i64 0,.bool false,.bool false,.int .i64 0,.int .i64 0,.bool false,.bool false,.slice none 0 0] 50)) Nul:=(Kp.refl z18 Nul).alloc _
    have hb2:Blk (z18.alloc (.cells #[.int .i64 0,.int .i64 0,.float .f64 0,.string ⟨#[]⟩,.bool false,.int .i64 0,.int .i64 0,.int .i64 0,.float .f64 0,.string ⟨#[]⟩,.bool false,.int .i64 0,.int .i64 0,.int .i64 0,.bool false,.bool false,.int .i64 0,.int .i64 0,.bool false,.bool false,.slice none 0 0] 50)) z18.heap.size [.int .i64 0,.int .i64 0,.float .f64 0,.string ⟨#[]⟩,.bool false,.int .i64 0,.int .i64 0,.int .i64 0,.float .f64 0,.string ⟨#[]⟩,.bool false,.int .i64 0,.int .i64 0,.int .i64 0,.bool false,.bool false,.int .i64 0,.int .i64 0,.bool false,.bool false,.slice none 0 0] 50:=Blk.new z18 [.int .i64 0,.int .i64 0,.float .f64 0,.string ⟨#[]⟩,.bool false,.int .i64 0,.int .i64 0,.int .i64 0,.float .f64 0,.string ⟨#[]⟩,.bool false,.int .i64 0,.int .i64 0,.int .i64 0,.bool false,.bool false,.int .i64 0,.int .i64 0,.bool false,.bool false,.slice none 0 0] 50
    have hs2:(z18.alloc (.cells #[.int .i64 0,.int .i64 0,.float .f64 0,.string ⟨#[]⟩,.bool false,.int .i64 0,.int .i64 0,.int .i64 0,.float .f64 0,.string ⟨#[]⟩,.bool false,.int .i64 0,.int .i64 0,.int .i64 0,.bool false,.bool false,.int .i64 0,.int .i64 0,.bool false,.bool false,.slice none 0 0] 50)).heap.size=z18.heap.size+1:=World.size_alloc _ _
    generalize z18.alloc (.cells #[.int .i64 0,.int .i64 0,.float .f64 0,.string ⟨#[]⟩,.bool false,.int .i64 0,.int .i64 0,.int .i64 0,.float .f64 0,.string ⟨#[]⟩,.bool false,.int .i64 0,.int .i64 0,.int .i64 0,.bool false,.bool false,.int .i64 0,.int .i64 0,.bool false,.bool false,.slice none 0 0] 50)=z21 at hk2 hb2 hs2 ⊢
    have F21_7:Hid (Blk z21 z18.heap.size [.int .i64 0,.int .i64 0,.float .f64 0,.string ⟨#[]⟩,.bool false,.int .i64 0,.int .i64 0,.int .i64 0,.float .f64 0,.string ⟨#[]⟩,.bool false,.int .i64 0,.int .i64 0,.int .i64 0,.bool false,.bool false,.int .i64 0,.int .i64 0,.bool false,.bool false,.slice none 0 0] 50):=hb2
    have Z21:Hid (z21.heap.size=z18.heap.size+1):=hs2
    have K21:Hid (Kp w2 z21 Nul):=K18.out.trans hk2
    have F21_2:Hid (GridIn z21 (fun i=>z17.heap.size<=i/\i<z18.heap.size) g2 M0):=F18_2.out.kp hk2
    have F21_6:Hid (Blk z21 (z0.heap.size) [.pointer none] 24):=F18_6.out.kp hk2 (fun x=>x)
    refine hK.out _ _ K21.out (fun hHeld=>?_)
    clear hK K hk2 hb2 hs2
    (try simp only[Act.put,Sz0,Sz1,Sz2])
    refine wpH_step (i:=5) (by kernel_rfl) rfl rfl (fun K hK=>?_)
    go_simp
    refine(HGt.out _ (HWB.out.trans K21.out)).mono ?_
    rintro e z22 ⟨sl,fp,rfl,hown,hk2⟩
    have HOo:Hid (Own z22 z21.heap.size sl u.t fp):=hown
    have F22_5:Hid (NdOwn z22 sl u.t fp):=hown.own
    have Z22:Hid (z21.heap.size<=z22.heap.size/\∀i∈fp,z21.heap.size<=i/\i<z22.heap.size):=⟨hk2.size,hown.new⟩
    have K22:Hid (Kp w2 z22 Nul):=K21.out.trans hk2
    have F22_2:Hid (GridIn z22 (fun i=>z17.heap.size<=i/\i<z18.heap.size) g2 M0):=F21_2.out.kp hk2
    have F22_6:Hid (Blk z22 (z0.heap.size) [.pointer none] 24):=F21_6.out.kp hk2 (fun x=>x)
    have F22_7:Hid (Blk z22 (z18.heap.size) [.int .i64 0,.int .i64 0,.float .f64 0,.string ⟨#[]⟩,.bool false,.int .i64 0,.int .i64 0,.int .i64 0,.float .f64 0,.string ⟨#[]⟩,.bool false,.int .i64 0,.int .i64 0,.int .i64 0,.bool false,.bool false,.int .i64 0,.int .i64 0,.bool false,.bool false,.slice none 0 0] 50):=F21_7.out.kp hk2 (fun x=>x)
    refine hK.out _ _ K22.out (fun hHeld=>?_)
    clear hK K hk2 hown
    (try simp only[Act.put,Sz0,Sz1,Sz2])
    have HSZ:Hid (z17.heap.size=z0.heap.size+1/\z17.heap.size<=z18.heap.size/\z21.heap.size=z18.heap.size+1/\z21.heap.size<=z22.heap.size/\w2.heap.size<=z0.heap.size):=⟨Z17.out,Z18.out,Z21.out,Z22.out.1,KU.out.size⟩
    refine wpH_step (i:=8) (by kernel_rfl) rfl rfl (fun K hK=>?_)
    refine wp_store_var 24 (.tmp 8) (.tmp 26) rfl (z0.heap.size) rfl (.pointer (some ⟨g2,0,none⟩)) rfl rfl 24 _ F22_6.out (by kernel_rfl) ?_
    intro Y hbY hkY
    have hSZ:=HSZ.out
    have hne:¬z18.heap.size=z0.heap.size:=by omega
    have hle6:w2.heap.size<=z0.heap.size:=by omega
    have hle7:w2.heap.size<=z18.heap.size:=by omega
    have KY:Hid (Kp w2 Y Nul):=K22.out.trans' hkY (fun i hi e=>by have e':i=z0.heap.size:=e;omega)
    have HC7:Hid (Blk Y (z18.heap.size) [.int .i64 0,.int .i64 0,.float .f64 0,.string ⟨#[]⟩,.bool false,.int .i64 0,.int .i64 0,.int .i64 0,.float .f64 0,.string ⟨#[]⟩,.bool false,.int .i64 0,.int .i64 0,.int .i64 0,.bool false,.bool false,.int .i64 0,.int .i64 0,.bool false,.bool false,.slice none 0 0] 50):=F22_7.out.kp hkY hne
    refine hK.out _ _ KY.out (fun hHeld=>?_)
    clear hK K
    (try simp only[Act.put])
    refine wpH_step (i:=9) (by kernel_rfl) rfl rfl (fun K hK=>?_)
    refine wp_store_blk 50 (.tmp 9) (.tmp 29) rfl (z18.heap.size) _ (u.cells sl) _ HC7.out rfl rfl rfl infoContent (u.one HOo.out.own.one) ?_
    intro Y2 hbY2 hkY2
    have KY2:Hid (Kp w2 Y2 Nul):=KY.out.trans' hkY2 (fun i hi e=>by have e':i=z18.heap.size:=e;omega)
    have HFin:Hid (FlB w2 Y2 (z0.heap.size) (z18.heap.size) g2 (fun i=>z17.heap.size<=i/\i<z18.heap.size) L M0 A1 A2 A3 A4 u sl fp):=by
     have hgi:=F22_2.out
     have hy1:=hkY.size
     have hy2:=hkY2.size
     refine⟨(hgi.far' hkY (fun i hi e=>by have e':i=z0.heap.size:=e;omega)).far' hkY2 (fun i hi e=>by have e':i=z18.heap.size:=e;omega),fun i hi=>⟨by omega,by omega,by omega,by omega,fun e=>by have:=HOo.out.new i e;omega⟩,HMem.out,HOkM.out,?_,hbY.kp hkY2 (by show ¬_=_;omega),hbY2,KY2.out⟩
     have hno:=F22_5.out
     exact(hno.mono (fun i hi=>hkY.block i (node_lt (hno.node i hi)) (fun e=>by have e':i=z0.heap.size:=e;have:=HOo.out.new i hi;omega))).mono (fun i hi=>hkY2.block i (Nat.lt_of_lt_of_le (node_lt (hno.node i hi)) hy1) (fun e=>by have e':i=z18.heap.size:=e;have:=HOo.out.new i hi;omega))
    refine hK.out _ _ KY2.out (fun _=>?_)
    clear hK K hHeld hbY hkY hbY2 hkY2 hSZ hne hle6 hle7
    (try simp only[Act.put])
    refine wpAnyH_done (by kernel_rfl) ?_ _
    refine NoPanic.normal ?_
    go_wp2_with fail
    go_meet
    case rel=>exact⟨_,_,g2,_,M0,sl,fp,rfl,rfl,HFin.out⟩
   obtain rfl:=List.mem_singleton.1 hj
   clear hj
   refine wpH_at (i:=7) rfl rfl (fun K hK=>?_)
   go_simp
   have hk2:Kp z17 (z17.alloc (.cells #[.int .i64 0,.int .i64 0,.float .f64 0,.string ⟨#[]⟩,.bool false,.int .i64 0,.int .i64 0,.int .i64 0,.float .f64 0,.string ⟨#[]⟩,.bool false,.int .i64 0,.int .i64 0,.int .i64 0,.bool false,.bool false,.int .i64 0,.int .i64 0,.bool false,.bool false,.slice none 0 0] 50)) Nul:=(Kp.refl z17 Nul).alloc _
   have hb2:Blk (z17.alloc (.cells #[.int .i64 0,.int .i64 0,.float .f64 0,.string ⟨#[]⟩,.bool false,.int .i64 0,.int .i64 0,.int .i64 0,.float .f64 0,.string ⟨#[]⟩,.bool false,.int .i64 0,.int .i64 0,.int .i64 0,.bool false,.bool false,.int .i64 0,.int .i64 0,.bool false,.bool false,.slice none 0 0] 50)) z17.heap.size [.int .i64 0,.int .i64 0,.float .f64 0,.string ⟨#[]⟩,.bool false,.int .i64 0,.int .i64 0,.int .i64 0,.float .f64 0,.string ⟨#[]⟩,.bool false,.int .i64 0,.int .i64 0,.int .i64 0,.bool false,.bool false,.int .i64 0,.int .i64 0,.bool false,.bool false,.slice none 0 0] 50:=Blk.new z17 [.int .i64 0,.int .i64 0,.float .f64 0,.string ⟨#[]⟩,.bool false,.int .i64 0,.int .i64 0,.int .i64 0,.float .f64 0,.string ⟨#[]⟩,.bool false,.int .i64 0,.int .i64 0,.int .i64 0,.bool false,.bool false,.int .i64 0,.int .i64 0,.bool false,.bool false,.slice none 0 0] 50
   have hs2:(z17.alloc (.cells #[.int .i64 0,.int .i64 0,.float .f64 0,.string ⟨#[]⟩,.bool false,.int .i64 0,.int .i64 0,.int .i64 0,.float .f64 0,.string ⟨#[]⟩,.bool false,.int .i64 0,.int .i64 0,.int .i64 0,.bool false,.bool false,.int .i64 0,.int .i64 0,.bool false,.bool false,.slice none 0 0] 50)).heap.size=z17.heap.size+1:=World.size_alloc _ _
   generalize z17.alloc (.cells #[.int .i64 0,.int .i64 0,.float .f64 0,.string ⟨#[]⟩,.bool false,.int .i64 0,.int .i64 0,.int .i64 0,.float .f64 0,.string ⟨#[]⟩,.bool false,.int .i64 0,.int .i64 0,.int .i64 0,.bool false,.bool false,.int .i64 0,.int .i64 0,.bool false,.bool false,.slice none 0 0] 50)=z23 at hk2 hb2 hs2 ⊢
   have F23_7:Hid (Blk z23 z17.heap.size [.int .i64 0,.int .i64 0,.float .f64 0,.string ⟨#[]⟩,.bool false,.int .i64 0,.int .i64 0,.int .i64 0,.float .f64 0,.string ⟨#[]⟩,.bool false,.int .i64 0,.int .i64 0,.int .i64 0,.bool false,.bool false,.int .i64 0,.int .i64 0,.bool false,.bool false,.slice none 0 0] 50):=hb2
   have Z23:Hid (z23.heap.size=z17.heap.size+1):=hs2
   have K23:Hid (Kp w2 z23 Nul):=K17.out.trans hk2
   have F23_6:Hid (Blk z23 (z0.heap.size) [.pointer none] 24):=F17_6.out.kp hk2 (fun x=>x)
   refine hK.out _ _ K23.out (fun hHeld=>?_)
   clear hK K hk2 hb2 hs2
   (try simp only[Act.put,Sz0,Sz1,Sz2])
   refine wpH_step (i:=2) (by kernel_rfl) rfl rfl (fun K hK=>?_)
   go_simp
   refine(HWo.out _ (HWB.out.trans K23.out)).mono ?_
   rintro e z24 ⟨g2,M0,rfl,hgi,hok,hmem,_,hk2⟩
   have HMem:Hid (∀y,y∈M0↔y∈L/\y∉inL A1 A2 A3 A4 L):=hmem
   have HOkM:Hid (Ok17 M0):=hok
   have F24_2:Hid (GridIn z24 (fun i=>z23.heap.size<=i/\i<z24.heap.size) g2 M0):=hgi.lows
   have Z24:Hid (z23.heap.size<=z24.heap.size):=hk2.size
   have K24:Hid (Kp w2 z24 Nul):=K23.out.trans hk2
   have F24_6:Hid (Blk z24 (z0.heap.size) [.pointer none] 24):=F23_6.out.kp hk2 (fun x=>x)
   have F24_7:Hid (Blk z24 (z17.heap.size) [.int .i64 0,.int .i64 0,.float .f64 0,.string ⟨#[]⟩,.bool false,.int .i64 0,.int .i64 0,.int .i64 0,.float .f64 0,.string ⟨#[]⟩,.bool false,.int .i64 0,.int .i64 0,.int .i64 0,.bool false,.bool false,.int .i64 0,.int .i64 0,.bool false,.bool false,.slice none 0 0] 50):=F23_7.out.kp hk2 (fun x=>x)
   refine hK.out _ _ K24.out (fun hHeld=>?_)
   clear hK K hk2 hgi hok hmem
   (try simp only[Act.put,Sz0,Sz1,Sz2])
   refine wpH_step (i:=5) (by kernel_rfl) rfl rfl (fun K hK=>?_)
   go_simp
   refine(HGt.out _ (HWB.out.trans K24.out)).mono ?_
   rintro e z25 ⟨sl,fp,rfl,hown,hk2⟩
   have HOo:Hid (Own z25 z24.heap.size sl u.t fp):=hown
   have F25_5:Hid (NdOwn z25 sl u.t fp):=hown.own
   have Z25:Hid (z24.heap.size<=z25.heap.size/\∀i∈fp,z24.heap.size<=i/\i<z25.heap.size):=⟨hk2.size,hown.new⟩
   have K25:Hid (Kp w2 z25 Nul):=K24.out.trans hk2
   have F25_2:Hid (GridIn z25 (fun i=>z23.heap.size<=i/\i<z24.heap.size) g2 M0):=F24_2.out.kp hk2
   have F25_6:Hid (Blk z25 (z0.heap.size) [.pointer none] 24):=F24_6.out.kp hk2 (fun x=>x)
   have F25_7:Hid (Blk z25 (z17.heap.size) [.int .i64 0,.int .i64 0,.float .f64 0,.string ⟨#[]⟩,.bool false,.int .i64 0,.int .i64 0,.int .i64 0,.float .f64 0,.string ⟨#[]⟩,.bool false,.int .i64 0,.int .i64 0,.int .i64 0,.bool false,.bool false,.int .i64 0,.int .i64 0,.bool false,.bool false,.slice none 0 0] 50):=F24_7.out.kp hk2 (fun x=>x)
   refine hK.out _ _ K25.out (fun hHeld=>?_)
   clear hK K hk2 hown
   (try simp only[Act.put,Sz0,Sz1,Sz2])
   have HSZ:Hid (z17.heap.size=z0.heap.size+1/\z23.heap.size=z17.heap.size+1/\z23.heap.size<=z24.heap.size/\z24.heap.size<=z25.heap.size/\w2.heap.size<=z0.heap.size):=⟨Z17.out,Z23.out,Z24.out,Z25.out.1,KU.out.size⟩
   refine wpH_step (i:=8) (by kernel_rfl) rfl rfl (fun K hK=>?_)
   refine wp_store_var 24 (.tmp 8) (.tmp 26) rfl (z0.heap.size) rfl (.pointer (some ⟨g2,0,none⟩)) rfl rfl 24 _ F25_6.out (by kernel_rfl) ?_
   intro Y hbY hkY
   have hSZ:=HSZ.out
   have hne:¬z17.heap.size=z0.heap.size:=by omega
   have hle6:w2.heap.size<=z0.heap.size:=by omega
   have hle7:w2.heap.size<=z17.heap.size:=by omega
   have KY:Hid (Kp w2 Y Nul):=K25.out.trans' hkY (fun i hi e=>by have e':i=z0.heap.size:=e;omega)
   have HC7:Hid (Blk Y (z17.heap.size) [.int .i64 0,.int .i64 0,.float .f64 0,.string ⟨#[]⟩,.bool false,.int .i64 0,.int .i64 0,.int .i64 0,.float .f64 0,.string ⟨#[]⟩,.bool false,.int .i64 0,.int .i64 0,.int .i64 0,.bool false,.bool false,.int .i64 0,.int .i64 0,.bool false,.bool false,.slice none 0 0] 50):=F25_7.out.kp hkY hne
   refine hK.out _ _ KY.out (fun hHeld=>?_)
   clear hK K
   (try simp only[Act.put])
   refine wpH_step (i:=9) (by kernel_rfl) rfl rfl (fun K hK=>?_)
   refine wp_store_blk 50 (.tmp 9) (.tmp 29) rfl (z17.heap.size) _ (u.cells sl) _ HC7.out rfl rfl rfl infoContent (u.one HOo.out.own.one) ?_
   intro Y2 hbY2 hkY2
   have KY2:Hid (Kp w2 Y2 Nul):=KY.out.trans' hkY2 (fun i hi e=>by have e':i=z17.heap.size:=e;omega)
   have HFin:Hid (FlB w2 Y2 (z0.heap.size) (z17.heap.size) g2 (fun i=>z23.heap.size<=i/\i<z24.heap.size) L M0 A1 A2 A3 A4 u sl fp):=by
    have hgi:=F25_2.out
    have hy1:=hkY.size
    have hy2:=hkY2.size
    refine⟨(hgi.far' hkY (fun i hi e=>by have e':i=z0.heap.size:=e;omega)).far' hkY2 (fun i hi e=>by have e':i=z17.heap.size:=e;omega),fun i hi=>⟨by omega,by omega,by omega,by omega,fun e=>by have:=HOo.out.new i e;omega⟩,HMem.out,HOkM.out,?_,hbY.kp hkY2 (by show ¬_=_;omega),hbY2,KY2.out⟩
    have hno:=F25_5.out
    exact(hno.mono (fun i hi=>hkY.block i (node_lt (hno.node i hi)) (fun e=>by have e':i=z0.heap.size:=e;have:=HOo.out.new i hi;omega))).mono (fun i hi=>hkY2.block i (Nat.lt_of_lt_of_le (node_lt (hno.node i hi)) hy1) (fun e=>by have e':i=z17.heap.size:=e;have:=HOo.out.new i hi;omega))
   refine hK.out _ _ KY2.out (fun _=>?_)
   clear hK K hHeld hbY hkY hbY2 hkY2 hSZ hne hle6 hle7
   (try simp only[Act.put])
   refine wpAnyH_done (by kernel_rfl) ?_ _
   refine NoPanic.normal ?_
   go_wp2_with fail
   go_meet
   case rel=>exact⟨_,_,g2,_,M0,sl,fp,rfl,rfl,HFin.out⟩
  obtain rfl:=List.mem_singleton.1 hj
  clear hj
  refine wpH_at (i:=7) rfl rfl (fun K hK=>?_)
  go_simp
  have hk2:Kp z0 (z0.alloc (.cells #[.int .i64 0,.int .i64 0,.float .f64 0,.string ⟨#[]⟩,.bool false,.int .i64 0,.int .i64 0,.int .i64 0,.float .f64 0,.string ⟨#[]⟩,.bool false,.int .i64 0,.int .i64 0,.int .i64 0,.bool false,.bool false,.int .i64 0,.int .i64 0,.bool false,.bool false,.slice none 0 0] 50)) Nul:=(Kp.refl z0 Nul).alloc _
  have hb2:Blk (z0.alloc (.cells #[.int .i64 0,.int .i64 0,.float .f64 0,.string ⟨#[]⟩,.bool false,.int .i64 0,.int .i64 0,.int .i64 0,.float .f64 0,.string ⟨#[]⟩,.bool false,.int .i64 0,.int .i64 0,.int .i64 0,.bool false,.bool false,.int .i64 0,.int .i64 0,.bool false,.bool false,.slice none 0 0] 50)) z0.heap.size [.int .i64 0,.int .i64 0,.float .f64 0,.string ⟨#[]⟩,.bool false,.int .i64 0,.int .i64 0,.int .i64 0,.float .f64 0,.string ⟨#[]⟩,.bool false,.int .i64 0,.int .i64 0,.int .i64 0,.bool false,.bool false,.int .i64 0,.int .i64 0,.bool false,.bool false,.slice none 0 0] 50:=Blk.new z0 [.int .i64 0,.int .i64 0,.float .f64 0,.string ⟨#[]⟩,.bool false,.int .i64 0,.int .i64 0,.int .i64 0,.float .f64 0,.string ⟨#[]⟩,.bool false,.int .i64 0,.int .i64 0,.int .i64 0,.bool false,.bool false,.int .i64 0,.int .i64 0,.bool false,.bool false,.slice none 0 0] 50
  have hs2:(z0.alloc (.cells #[.int .i64 0,.int .i64 0,.float .f64 0,.string ⟨#[]⟩,.bool false,.int .i64 0,.int .i64 0,.int .i64 0,.float .f64 0,.string ⟨#[]⟩,.bool false,.int .i64 0,.int .i64 0,.int .i64 0,.bool false,.bool false,.int .i64 0,.int .i64 0,.bool false,.bool false,.slice none 0 0] 50)).heap.size=z0.heap.size+1:=World.size_alloc _ _
  generalize z0.alloc (.cells #[.int .i64 0,.int .i64 0,.float .f64 0,.string ⟨#[]⟩,.bool false,.int .i64 0,.int .i64 0,.int .i64 0,.float .f64 0,.string ⟨#[]⟩,.bool false,.int .i64 0,.int .i64 0,.int .i64 0,.bool false,.bool false,.int .i64 0,.int .i64 0,.bool false,.bool false,.slice none 0 0] 50)=z26 at hk2 hb2 hs2 ⊢
  have F26_7:Hid (Blk z26 z0.heap.size [.int .i64 0,.int .i64 0,.float .f64 0,.string ⟨#[]⟩,.bool false,.int .i64 0,.int .i64 0,.int .i64 0,.float .f64 0,.string ⟨#[]⟩,.bool false,.int .i64 0,.int .i64 0,.int .i64 0,.bool false,.bool false,.int .i64 0,.int .i64 0,.bool false,.bool false,.slice none 0 0] 50):=hb2
  have Z26:Hid (z26.heap.size=z0.heap.size+1):=hs2
  have K26:Hid (Kp w2 z26 Nul):=KU.out.trans hk2
  refine hK.out _ _ K26.out (fun hHeld=>?_)
  clear hK K hk2 hb2 hs2
  (try simp only[Act.put,Sz0,Sz1,Sz2])
  refine wpAnyH_all (rs:=[2,6]) (by kernel_rfl) (by simp) (fun j hj=>?_)
  rcases List.mem_cons.1 hj with rfl|hj
  ·clear hj
   refine wpH_at (i:=2) rfl rfl (fun K hK=>?_)
   go_simp
   refine(HWo.out _ (HWB.out.trans K26.out)).mono ?_
   rintro e z27 ⟨g2,M0,rfl,hgi,hok,hmem,_,hk2⟩
   have HMem:Hid (∀y,y∈M0↔y∈L/\y∉inL A1 A2 A3 A4 L):=hmem
   have HOkM:Hid (Ok17 M0):=hok
   have F27_2:Hid (GridIn z27 (fun i=>z26.heap.size<=i/\i<z27.heap.size) g2 M0):=hgi.lows
   have Z27:Hid (z26.heap.size<=z27.heap.size):=hk2.size
   have K27:Hid (Kp w2 z27 Nul):=K26.out.trans hk2
   have F27_7:Hid (Blk z27 (z0.heap.size) [.int .i64 0,.int .i64 0,.float .f64 0,.string ⟨#[]⟩,.bool false,.int .i64 0,.int .i64 0,.int .i64 0,.float .f64 0,.string ⟨#[]⟩,.bool false,.int .i64 0,.int .i64 0,.int .i64 0,.bool false,.bool false,.int .i64 0,.int .i64 0,.bool false,.bool false,.slice none 0 0] 50):=F26_7.out.kp hk2 (fun x=>x)
   refine hK.out _ _ K27.out (fun hHeld=>?_)
   clear hK K hk2 hgi hok hmem
   (try simp only[Act.put,Sz0,Sz1,Sz2])
   refine wpAnyH_all (rs:=[5,6]) (by kernel_rfl) (by simp) (fun j hj=>?_)
   rcases List.mem_cons.1 hj with rfl|hj
   ·clear hj
    refine wpH_at (i:=5) rfl rfl (fun K hK=>?_)
    go_simp
    refine(HGt.out _ (HWB.out.trans K27.out)).mono ?_
    rintro e z28 ⟨sl,fp,rfl,hown,hk2⟩
    have HOo:Hid (Own z28 z27.heap.size sl u.t fp):=hown
    have F28_5:Hid (NdOwn z28 sl u.t fp):=hown.own
    have Z28:Hid (z27.heap.size<=z28.heap.size/\∀i∈fp,z27.heap.size<=i/\i<z28.heap.size):=⟨hk2.size,hown.new⟩
    have K28:Hid (Kp w2 z28 Nul):=K27.out.trans hk2
    have F28_2:Hid (GridIn z28 (fun i=>z26.heap.size<=i/\i<z27.heap.size) g2 M0):=F27_2.out.kp hk2
    have F28_7:Hid (Blk z28 (z0.heap.size) [.int .i64 0,.int .i64 0,.float .f64 0,.string ⟨#[]⟩,.bool false,.int .i64 0,.int .i64 0,.int .i64 0,.float .f64 0,.string ⟨#[]⟩,.bool false,.int .i64 0,.int .i64 0,.int .i64 0,.bool false,.bool false,.int .i64 0,.int .i64 0,.bool false,.bool false,.slice none 0 0] 50):=F27_7.out.kp hk2 (fun x=>x)
    refine hK.out _ _ K28.out (fun hHeld=>?_)
    clear hK K hk2 hown
    (try simp only[Act.put,Sz0,Sz1,Sz2])
    refine wpH_step (i:=6) (by kernel_rfl) rfl rfl (fun K hK=>?_)
    go_simp
    have hk2:Kp z28 (z28.alloc (.cells #[.pointer none] 24)) Nul:=(Kp.refl z28 Nul).alloc _
    have hb2:Blk (z28.alloc (.cells #[.pointer none] 24)) z28.heap.size [.pointer none] 24:=Blk.new z28 [.pointer none] 24
    have hs2:(z28.alloc (.cells #[.pointer none] 24)).heap.size=z28.heap.size+1:=World.size_alloc _ _
    generalize z28.alloc (.cells #[.pointer none] 24)=z29 at hk2 hb2 hs2 ⊢
    have F29_6:Hid (Blk z29 z28.heap.size [.pointer none] 24):=hb2
    have Z29:Hid (z29.heap.size=z28.heap.size+1):=hs2
    have K29:Hid (Kp w2 z29 Nul):=K28.out.trans hk2
    have F29_2:Hid (GridIn z29 (fun i=>z26.heap.size<=i/\i<z27.heap.size) g2 M0):=F28_2.out.kp hk2
    have F29_5:Hid (NdOwn z29 sl u.t fp):=F28_5.out.mono (fun i hi=>hk2.block i (node_lt (F28_5.out.node i hi)) (fun x=>x))
    have F29_7:Hid (Blk z29 (z0.heap.size) [.int .i64 0,.int .i64 0,.float .f64 0,.string ⟨#[]⟩,.bool false,.int .i64 0,.int .i64 0,.int .i64 0,.float .f64 0,.string ⟨#[]⟩,.bool false,.int .i64 0,.int .i64 0,.int .i64 0,.bool false,.bool false,.int .i64 0,.int .i64 0,.bool false,.bool false,.slice none 0 0] 50):=F28_7.out.kp hk2 (fun x=>x)
    refine hK.out _ _ K29.out (fun hHeld=>?_)
    clear hK K hk2 hb2 hs2
    (try simp only[Act.put,Sz0,Sz1,Sz2])
    have HSZ:Hid (z26.heap.size=z0.heap.size+1/\z26.heap.size<=z27.heap.size/\z27.heap.size<=z28.heap.size/\z29.heap.size=z28.heap.size+1/\w2.heap.size<=z0.heap.size):=⟨Z26.out,Z27.out,Z28.out.1,Z29.out,KU.out.size⟩
    refine wpH_step (i:=8) (by kernel_rfl) rfl rfl (fun K hK=>?_)
    refine wp_store_var 24 (.tmp 8) (.tmp 26) rfl (z28.heap.size) rfl (.pointer (some ⟨g2,0,none⟩)) rfl rfl 24 _ F29_6.out (by kernel_rfl) ?_
    intro Y hbY hkY
    have hSZ:=HSZ.out
    have hne:¬z0.heap.size=z28.heap.size:=by omega
    have hle6:w2.heap.size<=z28.heap.size:=by omega
    have hle7:w2.heap.size<=z0.heap.size:=by omega
    have KY:Hid (Kp w2 Y Nul):=K29.out.trans' hkY (fun i hi e=>by have e':i=z28.heap.size:=e;omega)
    have HC7:Hid (Blk Y (z0.heap.size) [.int .i64 0,.int .i64 0,.float .f64 0,.string ⟨#[]⟩,.bool false,.int .i64 0,.int .i64 0,.int .i64 0,.float .f64 0,.string ⟨#[]⟩,.bool false,.int .i64 0,.int .i64 0,.int .i64 0,.bool false,.bool false,.int .i64 0,.int .i64 0,.bool false,.bool false,.slice none 0 0] 50):=F29_7.out.kp hkY hne
    refine hK.out _ _ KY.out (fun hHeld=>?_)
    clear hK K
    (try simp only[Act.put])
    refine wpH_step (i:=9) (by kernel_rfl) rfl rfl (fun K hK=>?_)
    refine wp_store_blk 50 (.tmp 9) (.tmp 29) rfl (z0.heap.size) _ (u.cells sl) _ HC7.out rfl rfl rfl infoContent (u.one HOo.out.own.one) ?_
    intro Y2 hbY2 hkY2
    have KY2:Hid (Kp w2 Y2 Nul):=KY.out.trans' hkY2 (fun i hi e=>by have e':i=z0.heap.size:=e;omega)
    have HFin:Hid (FlB w2 Y2 (z28.heap.size) (z0.heap.size) g2 (fun i=>z26.heap.size<=i/\i<z27.heap.size) L M0 A1 A2 A3 A4 u sl fp):=by
     have hgi:=F29_2.out
     have hy1:=hkY.size
     have hy2:=hkY2.size
     refine⟨(hgi.far' hkY (fun i hi e=>by have e':i=z28.heap.size:=e;omega)).far' hkY2 (fun i hi e=>by have e':i=z0.heap.size:=e;omega),fun i hi=>⟨by omega,by omega,by omega,by omega,fun e=>by have:=HOo.out.new i e;omega⟩,HMem.out,HOkM.out,?_,hbY.kp hkY2 (by show ¬_=_;omega),hbY2,KY2.out⟩
     have hno:=F29_5.out
     exact(hno.mono (fun i hi=>hkY.block i (node_lt (hno.node i hi)) (fun e=>by have e':i=z28.heap.size:=e;have:=HOo.out.new i hi;omega))).mono (fun i hi=>hkY2.block i (Nat.lt_of_lt_of_le (node_lt (hno.node i hi)) hy1) (fun e=>by have e':i=z0.heap.size:=e;have:=HOo.out.new i hi;omega))
    refine hK.out _ _ KY2.out (fun _=>?_)
    clear hK K hHeld hbY hkY hbY2 hkY2 hSZ hne hle6 hle7
    (try simp only[Act.put])
    refine wpAnyH_done (by kernel_rfl) ?_ _
    refine NoPanic.normal ?_
    go_wp2_with fail
    go_meet
    case rel=>exact⟨_,_,g2,_,M0,sl,fp,rfl,rfl,HFin.out⟩
   obtain rfl:=List.mem_singleton.1 hj
   clear hj
   refine wpH_at (i:=6) rfl rfl (fun K hK=>?_)
   go_simp
   have hk2:Kp z27 (z27.alloc (.cells #[.pointer none] 24)) Nul:=(Kp.refl z27 Nul).alloc _
   have hb2:Blk (z27.alloc (.cells #[.pointer none] 24)) z27.heap.size [.pointer none] 24:=Blk.new z27 [.pointer none] 24
   have hs2:(z27.alloc (.cells #[.pointer none] 24)).heap.size=z27.heap.size+1:=World.size_alloc _ _
   generalize z27.alloc (.cells #[.pointer none] 24)=z30 at hk2 hb2 hs2 ⊢
   have F30_6:Hid (Blk z30 z27.heap.size [.pointer none] 24):=hb2
   have Z30:Hid (z30.heap.size=z27.heap.size+1):=hs2
   have K30:Hid (Kp w2 z30 Nul):=K27.out.trans hk2
   have F30_2:Hid (GridIn z30 (fun i=>z26.heap.size<=i/\i<z27.heap.size) g2 M0):=F27_2.out.kp hk2
   have F30_7:Hid (Blk z30 (z0.heap.size) [.int .i64 0,.int .i64 0,.float .f64 0,.string ⟨#[]⟩,.bool false,.int .i64 0,.int .i64 0,.int .i64 0,.float .f64 0,.string ⟨#[]⟩,.bool false,.int .i64 0,.int .i64 0,.int .i64 0,.bool false,.bool false,.int .i64 0,.int .i64 0,.bool false,.bool false,.slice none 0 0] 50):=F27_7.out.kp hk2 (fun x=>x)
   refine hK.out _ _ K30.out (fun hHeld=>?_)
   clear hK K hk2 hb2 hs2
   (try simp only[Act.put,Sz0,Sz1,Sz2])
   refine wpH_step (i:=5) (by kernel_rfl) rfl rfl (fun K hK=>?_)
   go_simp
   refine(HGt.out _ (HWB.out.trans K30.out)).mono ?_
   rintro e z31 ⟨sl,fp,rfl,hown,hk2⟩
   have HOo:Hid (Own z31 z30.heap.size sl u.t fp):=hown
   have F31_5:Hid (NdOwn z31 sl u.t fp):=hown.own
   have Z31:Hid (z30.heap.size<=z31.heap.size/\∀i∈fp,z30.heap.size<=i/\i<z31.heap.size):=⟨hk2.size,hown.new⟩
   have K31:Hid (Kp w2 z31 Nul):=K30.out.trans hk2
   have F31_2:Hid (GridIn z31 (fun i=>z26.heap.size<=i/\i<z27.heap.size) g2 M0):=F30_2.out.kp hk2
   have F31_6:Hid (Blk z31 (z27.heap.size) [.pointer none] 24):=F30_6.out.kp hk2 (fun x=>x)
   have F31_7:Hid (Blk z31 (z0.heap.size) [.int .i64 0,.int .i64 0,.float .f64 0,.string ⟨#[]⟩,.bool false,.int .i64 0,.int .i64 0,.int .i64 0,.float .f64 0,.string ⟨#[]⟩,.bool false,.int .i64 0,.int .i64 0,.int .i64 0,.bool false,.bool false,.int .i64 0,.int .i64 0,.bool false,.bool false,.slice none 0 0] 50):=F30_7.out.kp hk2 (fun x=>x)
   refine hK.out _ _ K31.out (fun hHeld=>?_)
   clear hK K hk2 hown
   (try simp only[Act.put,Sz0,Sz1,Sz2])
   have HSZ:Hid (z26.heap.size=z0.heap.size+1/\z26.heap.size<=z27.heap.size/\z30.heap.size=z27.heap.size+1/\z30.heap.size<=z31.heap.size/\w2.heap.size<=z0.heap.size):=⟨Z26.out,Z27.out,Z30.out,Z31.out.1,KU.out.size⟩
   refine wpH_step (i:=8) (by kernel_rfl) rfl rfl (fun K hK=>?_)
   refine wp_store_var 24 (.tmp 8) (.tmp 26) rfl (z27.heap.size) rfl (.pointer (some ⟨g2,0,none⟩)) rfl rfl 24 _ F31_6.out (by kernel_rfl) ?_
   intro Y hbY hkY
   have hSZ:=HSZ.out
   have hne:¬z0.heap.size=z27.heap.size:=by omega
   have hle6:w2.heap.size<=z27.heap.size:=by omega
   have hle7:w2.heap.size<=z0.heap.size:=by omega
   have KY:Hid (Kp w2 Y Nul):=K31.out.trans' hkY (fun i hi e=>by have e':i=z27.heap.size:=e;omega)
   have HC7:Hid (Blk Y (z0.heap.size) [.int .i64 0,.int .i64 0,.float .f64 0,.string ⟨#[]⟩,.bool false,.int .i64 0,.int .i64 0,.int .i64 0,.float .f64 0,.string ⟨#[]⟩,.bool false,.int .i64 0,.int .i64 0,.int .i64 0,.bool false,.bool false,.int .i64 0,.int .i64 0,.bool false,.bool false,.slice none 0 0] 50):=F31_7.out.kp hkY hne
   refine hK.out _ _ KY.out (fun hHeld=>?_)
   clear hK K
   (try simp only[Act.put])
   refine wpH_step (i:=9) (by kernel_rfl) rfl rfl (fun K hK=>?_)
   refine wp_store_blk 50 (.tmp 9) (.tmp 29) rfl (z0.heap.size) _ (u.cells sl) _ HC7.out rfl rfl rfl infoContent (u.one HOo.out.own.one) ?_
   intro Y2 hbY2 hkY2
   have KY2:Hid (Kp w2 Y2 Nul):=KY.out.trans' hkY2 (fun i hi e=>by have e':i=z0.heap.size:=e;omega)
   have HFin:Hid (FlB w2 Y2 (z27.heap.size) (z0.heap.size) g2 (fun i=>z26.heap.size<=i/\i<z27.heap.size) L M0 A1 A2 A3 A4 u sl fp):=by
    have hgi:=F31_2.out
    have hy1:=hkY.size
    have hy2:=hkY2.size
    refine⟨(hgi.far' hkY (fun i hi e=>by have e':i=z27.heap.size:=e;omega)).far' hkY2 (fun i hi e=>by have e':i=z0.heap.size:=e;omega),fun i hi=>⟨by omega,by omega,by omega,by omega,fun e=>by have:=HOo.out.new i e;omega⟩,HMem.out,HOkM.out,?_,hbY.kp hkY2 (by show ¬_=_;omega),hbY2,KY2.out⟩
    have hno:=F31_5.out
    exact(hno.mono (fun i hi=>hkY.block i (node_lt (hno.node i hi)) (fun e=>by have e':i=z27.heap.size:=e;have:=HOo.out.new i hi;omega))).mono (fun i hi=>hkY2.block i (Nat.lt_of_lt_of_le (node_lt (hno.node i hi)) hy1) (fun e=>by have e':i=z0.heap.size:=e;have:=HOo.out.new i hi;omega))
   refine hK.out _ _ KY2.out (fun _=>?_)
   clear hK K hHeld hbY hkY hbY2 hkY2 hSZ hne hle6 hle7
   (try simp only[Act.put])
   refine wpAnyH_done (by kernel_rfl) ?_ _
   refine NoPanic.normal ?_
   go_wp2_with fail
   go_meet
   case rel=>exact⟨_,_,g2,_,M0,sl,fp,rfl,rfl,HFin.out⟩
  obtain rfl:=List.mem_singleton.1 hj
  clear hj
  refine wpH_at (i:=6) rfl rfl (fun K hK=>?_)
  go_simp
  have hk2:Kp z26 (z26.alloc (.cells #[.pointer none] 24)) Nul:=(Kp.refl z26 Nul).alloc _
  have hb2:Blk (z26.alloc (.cells #[.pointer none] 24)) z26.heap.size [.pointer none] 24:=Blk.new z26 [.pointer none] 24
  have hs2:(z26.alloc (.cells #[.pointer none] 24)).heap.size=z26.heap.size+1:=World.size_alloc _ _
  generalize z26.alloc (.cells #[.pointer none] 24)=z32 at hk2 hb2 hs2 ⊢
  have F32_6:Hid (Blk z32 z26.heap.size [.pointer none] 24):=hb2
  have Z32:Hid (z32.heap.size=z26.heap.size+1):=hs2
  have K32:Hid (Kp w2 z32 Nul):=K26.out.trans hk2
  have F32_7:Hid (Blk z32 (z0.heap.size) [.int .i64 0,.int .i64 0,.float .f64 0,.string ⟨#[]⟩,.bool false,.int .i64 0,.int .i64 0,.int .i64 0,.float .f64 0,.string ⟨#[]⟩,.bool false,.int .i64 0,.int .i64 0,.int .i64 0,.bool false,.bool false,.int .i64 0,.int .i64 0,.bool false,.bool false,.slice none 0 0] 50):=F26_7.out.kp hk2 (fun x=>x)
  refine hK.out _ _ K32.out (fun hHeld=>?_)
  clear hK K hk2 hb2 hs2
  (try simp only[Act.put,Sz0,Sz1,Sz2])
  refine wpH_step (i:=2) (by kernel_rfl) rfl rfl (fun K hK=>?_)
  go_simp
  refine(HWo.out _ (HWB.out.trans K32.out)).mono ?_
  rintro e z33 ⟨g2,M0,rfl,hgi,hok,hmem,_,hk2⟩
  have HMem:Hid (∀y,y∈M0↔y∈L/\y∉inL A1 A2 A3 A4 L):=hmem
  have HOkM:Hid (Ok17 M0):=hok
  have F33_2:Hid (GridIn z33 (fun i=>z32.heap.size<=i/\i<z33.heap.size) g2 M0):=hgi.lows
  have Z33:Hid (z32.heap.size<=z33.heap.size):=hk2.size
  have K33:Hid (Kp w2 z33 Nul):=K32.out.trans hk2
  have F33_6:Hid (Blk z33 (z26.heap.size) [.pointer none] 24):=F32_6.out.kp hk2 (fun x=>x)
  have F33_7:Hid (Blk z33 (z0.heap.size) [.int .i64 0,.int .i64 0,.float .f64 0,.string ⟨#[]⟩,.bool false,.int .i64 0,.int .i64 0,.int .i64 0,.float .f64 0,.string ⟨#[]⟩,.bool false,.int .i64 0,.int .i64 0,.int .i64 0,.bool false,.bool false,.int .i64 0,.int .i64 0,.bool false,.bool false,.slice none 0 0] 50):=F32_7.out.kp hk2 (fun x=>x)
  refine hK.out _ _ K33.out (fun hHeld=>?_)
  clear hK K hk2 hgi hok hmem
  (try simp only[Act.put,Sz0,Sz1,Sz2])
  refine wpH_step (i:=5) (by kernel_rfl) rfl rfl (fun K hK=>?_)
  go_simp
  refine(HGt.out _ (HWB.out.trans K33.out)).mono ?_
  rintro e z34 ⟨sl,fp,rfl,hown,hk2⟩
  have HOo:Hid (Own z34 z33.heap.size sl u.t fp):=hown
  have F34_5:Hid (NdOwn z34 sl u.t fp):=hown.own
  have Z34:Hid (z33.heap.size<=z34.heap.size/\∀i∈fp,z33.heap.size<=i/\i<z34.heap.size):=⟨hk2.size,hown.new⟩
  have K34:Hid (Kp w2 z34 Nul):=K33.out.trans hk2
  have F34_2:Hid (GridIn z34 (fun i=>z32.heap.size<=i/\i<z33.heap.size) g2 M0):=F33_2.out.kp hk2
  have F34_6:Hid (Blk z34 (z26.heap.size) [.pointer none] 24):=F33_6.out.kp hk2 (fun x=>x)
  have F34_7:Hid (Blk z34 (z0.heap.size) [.int .i64 0,.int .i64 0,.float .f64 0,.string ⟨#[]⟩,.bool false,.int .i64 0,.int .i64 0,.int .i64 0,.float .f64 0,.string ⟨#[]⟩,.bool false,.int .i64 0,.int .i64 0,.int .i64 0,.bool false,.bool false,.int .i64 0,.int .i64 0,.bool false,.bool false,.slice none 0 0] 50):=F33_7.out.kp hk2 (fun x=>x)
  refine hK.out _ _ K34.out (fun hHeld=>?_)
  clear hK K hk2 hown
  (try simp only[Act.put,Sz0,Sz1,Sz2])
  have HSZ:Hid (z26.heap.size=z0.heap.size+1/\z32.heap.size=z26.heap.size+1/\z32.heap.size<=z33.heap.size/\z33.heap.size<=z34.heap.size/\w2.heap.size<=z0.heap.size):=⟨Z26.out,Z32.out,Z33.out,Z34.out.1,KU.out.size⟩
  refine wpH_step (i:=8) (by kernel_rfl) rfl rfl (fun K hK=>?_)
  refine wp_store_var 24 (.tmp 8) (.tmp 26) rfl (z26.heap.size) rfl (.pointer (some ⟨g2,0,none⟩)) rfl rfl 24 _ F34_6.out (by kernel_rfl) ?_
  intro Y hbY hkY
  have hSZ:=HSZ.out
  have hne:¬z0.heap.size=z26.heap.size:=by omega
  have hle6:w2.heap.size<=z26.heap.size:=by omega
  have hle7:w2.heap.size<=z0.heap.size:=by omega
  have KY:Hid (Kp w2 Y Nul):=K34.out.trans' hkY (fun i hi e=>by have e':i=z26.heap.size:=e;omega)
  have HC7:Hid (Blk Y (z0.heap.size) [.int .i64 0,.int .i64 0,.float .f64 0,.string ⟨#[]⟩,.bool false,.int .i64 0,.int .i64 0,.int .i64 0,.float .f64 0,.string ⟨#[]⟩,.bool false,.int .i64 0,.int .i64 0,.int .i64 0,.bool false,.bool false,.int .i64 0,.int .i64 0,.bool false,.bool false,.slice none 0 0] 50):=F34_7.out.kp hkY hne
  refine hK.out _ _ KY.out (fun hHeld=>?_)
  clear hK K
  (try simp only[Act.put])
  refine wpH_step (i:=9) (by kernel_rfl) rfl rfl (fun K hK=>?_)
  refine wp_store_blk 50 (.tmp 9) (.tmp 29) rfl (z0.heap.size) _ (u.cells sl) _ HC7.out rfl rfl rfl infoContent (u.one HOo.out.own.one) ?_
  intro Y2 hbY2 hkY2
  have KY2:Hid (Kp w2 Y2 Nul):=KY.out.trans' hkY2 (fun i hi e=>by have e':i=z0.heap.size:=e;omega)
  have HFin:Hid (FlB w2 Y2 (z26.heap.size) (z0.heap.size) g2 (fun i=>z32.heap.size<=i/\i<z33.heap.size) L M0 A1 A2 A3 A4 u sl fp):=by
   have hgi:=F34_2.out
   have hy1:=hkY.size
   have hy2:=hkY2.size
   refine⟨(hgi.far' hkY (fun i hi e=>by have e':i=z26.heap.size:=e;omega)).far' hkY2 (fun i hi e=>by have e':i=z0.heap.size:=e;omega),fun i hi=>⟨by omega,by omega,by omega,by omega,fun e=>by have:=HOo.out.new i e;omega⟩,HMem.out,HOkM.out,?_,hbY.kp hkY2 (by show ¬_=_;omega),hbY2,KY2.out⟩
   have hno:=F34_5.out
   exact(hno.mono (fun i hi=>hkY.block i (node_lt (hno.node i hi)) (fun e=>by have e':i=z26.heap.size:=e;have:=HOo.out.new i hi;omega))).mono (fun i hi=>hkY2.block i (Nat.lt_of_lt_of_le (node_lt (hno.node i hi)) hy1) (fun e=>by have e':i=z0.heap.size:=e;have:=HOo.out.new i hi;omega))
  refine hK.out _ _ KY2.out (fun _=>?_)
  clear hK K hHeld hbY hkY hbY2 hkY2 hSZ hne hle6 hle7
  (try simp only[Act.put])
  refine wpAnyH_done (by kernel_rfl) ?_ _
  refine NoPanic.normal ?_
  go_wp2_with fail
  go_meet
  case rel=>exact⟨_,_,g2,_,M0,sl,fp,rfl,rfl,HFin.out⟩
 case rest=>
  obtain⟨x8,x9,g2,G,M0,sl,fp,rfl,rfl,hF⟩:=hcut
  rename World=>w5
  have HF:Hid (FlB w2 w5 x8 x9 g2 G L M0 A1 A2 A3 A4 u sl fp):=hF
  have KW5:Hid (Kp W0 w5 Nul):=KWB.out.trans hF.kp
  have K05:Hid (Kp w w5 Nul):=k0.out.trans KW5.out
  have O1:Hid (sl.oneCell'=true):=hF.nd.one
  have HOn0:Hid (M0.Pairwise (fun x y=>x.1≠y.1)):=hF.gi.once'
  have S2:Hid (w.heap.size+4<=w2.heap.size):=by show _<=_;have:=KWB.out.size;rw[S0.out] at this;exact this
  have HG0:Hid (∀i,G i->w.heap.size+4<=i/\i<w5.heap.size/\i≠x8/\i≠x9/\i∉fp):=fun i hi=>by have h1:=hF.g0 i hi;exact⟨Nat.le_trans S2.out h1.1,h1.2⟩
  obtain⟨uk,huk⟩:∃uk,u.k=uk:=⟨_,rfl⟩
  have HUK:Hid (u.k=uk):=huk
  have q0:w5.cell? ⟨x9,0,none⟩=some (.int .i64 uk):=by rw[<- huk];exact hF.c9.cell rfl
  have p0:w5.cell? ⟨x8,0,none⟩=some (.pointer (some ⟨g2,0,none⟩)):=hF.c8.cell rfl
  have H6:Hid (Blk w5 (w.heap.size+2) [.pointer none] 24):=HB6.out _ KW5.out
  have H7:Hid (Blk w5 (w.heap.size+2+1) [.int .i64 0] 39):=HB7.out _ KW5.out
  clear hF huk HWo HGt
  by_cases hk:uk=0
  ·subst hk
   go_wp2_with (first
    | (refine wpList_store_var rfl 24 (.tmp 6) (.tmp 33) rfl (w.heap.size+2) rfl (.pointer (some ⟨g2,0,none⟩)) rfl rfl 24 _ H6.out (by kernel_rfl) ?_;intro Y hbY hkY;have HY6:Hid (Blk Y (w.heap.size+2) [.pointer (some ⟨g2,0,none⟩)] 24):=hbY;have HY7:Hid (Blk Y (w.heap.size+2+1) [.int .i64 0] 39):=H7.out.kp hkY (by show ¬_=_;omega);have KY:Hid (Kp w5 Y (fun i=>i=w.heap.size+2∨i=w.heap.size+2+1)):=hkY.mono (fun _ _ e=>.inl e);clear hbY hkY)
    | (refine wpList_store_var rfl 39 (.tmp 7) (.const (.int .i64 0)) rfl (w.heap.size+2+1) rfl (.int .i64 0) rfl rfl 39 _ HY7.out (by kernel_rfl) ?_;intro Y2 hb2 hk2;have HE6:Hid (Blk Y2 (w.heap.size+2) [.pointer (some ⟨g2,0,none⟩)] 24):=HY6.out.kp hk2 (by show ¬_=_;omega);have HE7:Hid (Blk Y2 (w.heap.size+2+1) [.int .i64 0] 39):=hb2;have KE:Hid (Kp w5 Y2 (fun i=>i=w.heap.size+2∨i=w.heap.size+2+1)):=KY.out.trans (hk2.mono (fun _ _ e=>.inr e));clear hb2 hk2)
    | fail)
   have c1:Y2.cell? ⟨w.heap.size+2,0,none⟩=some (.pointer (some ⟨g2,0,none⟩)):=HE6.out.cell rfl
   have c2:Y2.cell? ⟨w.heap.size+2+1,0,none⟩=some (.int .i64 0):=HE7.out.cell rfl
   clear q0 p0
   refine⟨_,results_vars rfl _ _ (w.heap.size+2) (w.heap.size+2+1) (.pointer (some ⟨g2,0,none⟩)) (.int .i64 0) rfl rfl ?_ ?_,?_⟩
   ·clear c2;go_simp
   ·clear c1;go_simp
   ·have hYs:Ys=[]:=by rw[HY.out,if_pos HUK.out]
    refine⟨_,M0,rfl,HF.out.mem,HOn0.out,HF.out.ok,K05.out.trans' KE.out (fun i hi e=>by rcases e with e|e <;> omega),(fun e=>by rw[hYs] at e;cases e),fun M1 e=>?_⟩
    rw[hYs] at e
    cases e
    exact⟨g2,rfl,(HF.out.gi.far' KE.out (fun i hi e=>by have:=HG0.out i hi;rcases e with e|e <;> omega)).mono (fun i hi=>by have:=HG0.out i hi;show w.heap.size<=i;omega),HF.out.ok⟩
  ·have e0:(uk==0)=false:=by simpa using hk
   have HCe:Hid (Calls Tryz.prog 36 #[.agg #[.int .i64 A1,.int .i64 A2,.int .i64 A3,.int .i64 A4]] w5 fun e w'=>e=.returned (.func (.func 69) #[] #[.pointer (some ⟨w5.heap.size,0,none⟩)])/\Blk w' w5.heap.size [.int .i64 A1,.int .i64 A2,.int .i64 A3,.int .i64 A4] 34/\Kp w5 w' Nul):=cellsN A1 A2 A3 A4 w5
   have hYe:Ys=flY f1 f2 A1 A2 A3 A4 u:=by rw[HY.out,if_neg (by rw[HUK.out];exact hk)]
   have HYe:Hid (Ys=flY f1 f2 A1 A2 A3 A4 u):=hYe
   have HGu:Hid (Gd u):=HGd.out (by rw[HUK.out];exact hk)
   have HP0:Hid (w5.cell? ⟨x8,0,none⟩=some (.pointer (some ⟨g2,0,none⟩))):=p0
   have d0:w5.cell? ⟨w.heap.size+1,0,none⟩=some (.int .i64 A1):=(HB5.out _ KW5.out).cell rfl
   have d1:w5.cell? ⟨w.heap.size+1,1,none⟩=some (.int .i64 A2):=(HB5.out _ KW5.out).cell rfl
   have d2:w5.cell? ⟨w.heap.size+1,2,none⟩=some (.int .i64 A3):=(HB5.out _ KW5.out).cell rfl
   have d3:w5.cell? ⟨w.heap.size+1,3,none⟩=some (.int .i64 A4):=(HB5.out _ KW5.out).cell rfl
   clear hYe p0 HY HGd
   go_wp2_with fail
   clear d0 d1 d2 d3 q0
   refine HCe.out.mono ?_
   rintro e w3 ⟨rfl,hb3,hk3⟩
   have HP:Hid (Blk w3 w5.heap.size [.int .i64 A1,.int .i64 A2,.int .i64 A3,.int .i64 A4] 34):=hb3
   have K3:Hid (Kp w5 w3 Nul):=hk3
   have L3:Hid (w5.heap.size<w3.heap.size):=hb3.lt
   clear hb3 hk3 HCe
   go_wp2_with fail
   have hL3:=L3.out
   have h52:=K05.out.size
   have HZp:Hid (w.heap.size+4<=w5.heap.size):=by show _<=_;have:=KW5.out.size;rw[S0.out] at this;exact this
   have hZp:=HZp.out
   generalize hact:Act.mk _ _=a0
   refine wp_range_ow3 (α:=Int×Int) (N:=szN A1 A2 A3 A4) (gf:=69) (lb:=#[.pointer (some ⟨w5.heap.size,0,none⟩)]) (by rw[<- hact];rfl) (enters_of Tryz.func69 (by kernel_rfl) rfl) (encs:=encXA) (fun _ _=>False) (fun _=>rfl) (TellA A1 A2 A3) ?hT (fun i=>(i=w.heap.size+2∨i=w.heap.size+2+1)∨G i) ?hseq (fun k Z V=>∃M,FyI w3 w3.heap.size (w.heap.size+2) g2 G M0 Ys k Z V M) ?hZ ?hZl ?hI (CyX w w3.heap.size (w.heap.size+2) M0 Ys) ?hIx (fun i=>(i=w.heap.size+2∨i=w.heap.size+2+1)∨G i) ?h0 ?hround ?hdone ?hstop
   case hT=>exact fun _ _ _ _ _=>⟨fun e=>e,fun e=>e⟩
   case hseq=>exact cells_ow3 A1 A2 A3 A4 w5.heap.size w3 HP.out _ (fun e=>by rcases e with (e|e)|e;omega;omega;have:=HG0.out _ e;omega)
   case hZ=>
    rintro k Z V ⟨M',h⟩
    exact⟨fun q=>by rcases(h.zl _ q).2 with e|e|e;omega;have:=(h.g0 _ e);omega;omega,fun q=>by rcases(h.zl _ q).2 with e|e|e;omega;have:=(h.g0 _ e);omega;omega⟩
   case hZl=>
    rintro k Z V ⟨M',h⟩
    exact⟨fun i hi=>(h.zl i hi).1,fun i hlt hi=>by rcases(h.zl i hi).2 with e|e|e;exact .inl e;exact .inr e;omega⟩
   case hI=>
    rintro k Z V V' ⟨M',h⟩ q
    exact⟨M',h.far q (fun i hi e=>by rcases(h.zl _ hi).2 with q|q|q <;> rcases e with e|e <;> first|omega|(have:=h.g0 _ q;omega)) (fun i hi e=>by rcases e with e|e <;> omega)⟩
   case hIx=>
    intro V V' h q
    have hB:=h.hB
    exact⟨h.full,h.r6.kp q (fun e=>by rcases e with e|e <;> omega),h.r7.kp q (fun e=>by rcases e with e|e <;> omega),h.kp.trans' q (fun i hi e=>by rcases e with e|e <;> omega),hB⟩
   case h0=>
    refine⟨M0,(HF.out.gi.kp K3.out).mono (fun i hi=>⟨.inr hi,by have:=HG0.out i hi;omega,by have:=HG0.out i hi;omega⟩),HF.out.ok,rfl,H6.out.kp K3.out (fun x=>x),H7.out.kp K3.out (fun x=>x),Kp.refl _ _,fun i hi=>?_,⟨.inl (.inl rfl),.inl (.inr rfl)⟩,fun i hi=>⟨by have:=HG0.out i hi;omega,by have:=HG0.out i hi;omega⟩,by omega,Nat.le_refl _⟩
    rcases hi with e|e
    ·exact⟨by omega,.inl e⟩
    ·exact⟨by have:=HG0.out i e;omega,.inr (.inl e)⟩
   case hround=>
    subst hact
    rintro k ⟨c,s⟩ Z V0 KK hkN hsW ⟨M',hI⟩ htell hcont
    have HI:Hid (FyI w3 w3.heap.size (w.heap.size+2) g2 G M0 Ys k Z V0 M'):=hI
    have HSW:Hid (w3.heap.size+2<=V0.heap.size):=hsW
    have htell':(c,s)=cK A1 A2 A3 k:=htell
    have HTl:Hid ((c,s)=cK A1 A2 A3 k):=htell'
    have HvC:Hid (vC c s=true):=by
     have h1:=(cK_in (m4:=A4)).1 ⟨k,hkN,htell'.symm⟩
     unfold inA at h1
     simp only[Bool.and_eq_true,decide_eq_true_eq] at h1
     have h2:=vA_bd _ _ _ _ h1.1.1.1.1
     show vC c s=true
     rw[vC_iff];omega
    have HYk:Hid (Ys[k]? = some ((c,s),hmC (shH (c-f1) (s-f2)) u)):=by show _=_;rw[HYe.out];exact flY_get hkN htell'
    clear hI hsW htell htell'
    simp only[List.zip_toArray,List.zip_cons_cons,List.zip_nil_right,List.foldl_toArray',List.foldl_cons,List.foldl_nil]
    gi_wp2_with (fail)
    refine hcont _ _ ((Kp.refl V0 Nul).alloc _) (fun V hV _=>?_)
    have hWV:Kp V0 V (fun i=>i=w3.heap.size+1):=(((Kp.refl V0 Nul).alloc _).mono (fun _ _ q=>q.elim)).trans hV
    have HIV:Hid (FyI w3 w3.heap.size (w.heap.size+2) g2 G M0 Ys k Z V M'):=HI.out.far hWV (fun i hi e=>by have e':i=w3.heap.size+1:=e;rcases(HI.out.zl i hi).2 with q|q|q <;> first|omega|(have:=HI.out.g0 _ q;omega)) (fun i hi e=>by have e':i=w3.heap.size+1:=e;omega)
    have HbA:Hid (Blk V V0.heap.size [.int .i64 c,.int .i64 s] 32):=(Blk.new V0 [.int .i64 c,.int .i64 s] 32).kp hV (fun e=>by have e':V0.heap.size=w3.heap.size+1:=e;have:=HSW.out;omega)
    have HVV:Hid (V0.heap.size<V.heap.size):=HbA.out.lt
    have KV:Hid (Kp w V Nul):=(K05.out.trans K3.out).trans' HIV.out.kp (fun i hi e=>by have:=HG0.out i e;omega)
    have KW:Hid (Kp W0 V Nul):=(KW5.out.trans K3.out).trans' HIV.out.kp (fun i hi e=>by have:=HG0.out i e;have:=S0.out;omega)
    have B8:Hid (Blk V x8 [.pointer (some ⟨g2,0,none⟩)] 24):=(HF.out.c8.kp K3.out (fun x=>x)).kp HIV.out.kp (fun e=>(HG0.out _ e).2.2.1 rfl)
    have B9:Hid (Blk V x9 (u.cells sl) 50):=(HF.out.c9.kp K3.out (fun x=>x)).kp HIV.out.kp (fun e=>(HG0.out _ e).2.2.2.1 rfl)
    have HNd:Hid (NdOwn V sl u.t fp):=(HF.out.nd.mono (fun i hi=>K3.out.block i (node_lt (HF.out.nd.node i hi)) (fun x=>x))).mono (fun i hi=>HIV.out.kp.block i (Nat.lt_of_lt_of_le (node_lt (HF.out.nd.node i hi)) K3.out.size) (fun e=>(HG0.out _ e).2.2.2.2 hi))
    have HPc:Hid (Calls Tryz.prog 55 #[.pointer (some ⟨g2,0,none⟩),.agg #[.int .i64 c,.int .i64 s],u.val sl,.agg #[.int .i64 f1,.int .i64 f2]] V fun e w'=>∃er,e=.returned (.int .i64 er)/\∃M2,GridIn w' (fun i=>(Z i/\i≠w.heap.size+2/\i≠w.heap.size+2+1)∨V.heap.size<=i) g2 M2/\PcR M' (c,s) (hmC (shH (c-f1) (s-f2)) u) er M2/\Km g2 V w'):=
     HPcd.out (fun i=>(Z i/\i≠w.heap.size+2/\i≠w.heap.size+2+1)∨V.heap.size<=i) (fun _=>True) g2 c s sl M' V KV.out (HIV.out.gi.mono (fun i hi=>.inl hi)) (fun i hi=>.inr hi) HIV.out.ok HGu.out HvC.out (HNd.out.isIn (fun _ _=>trivial))
    have b0:V.cell? ⟨x8,0,none⟩=some (.pointer (some ⟨g2,0,none⟩)):=B8.out.cell rfl
    have a0:V.cell? ⟨V0.heap.size,0,none⟩=some (.int .i64 c):=HbA.out.cell rfl
    have a1:V.cell? ⟨V0.heap.size,1,none⟩=some (.int .i64 s):=HbA.out.cell rfl
    have c0:V.cell? ⟨w.heap.size,0,none⟩=some (.int .i64 f1):=(HB4.out _ KW.out).cell rfl
    have c1:V.cell? ⟨w.heap.size,1,none⟩=some (.int .i64 f2):=(HB4.out _ KW.out).cell rfl
    clear hcont hV hWV HPcd HNd
    gi_wp2_with (first
     | (refine loadIn_content rfl (.tmp 9) rfl x9 rfl (u.cells sl).toArray B9.out rfl ?_)
     | fail)
    clear b0 a0 a1 c0 c1
    refine⟨trivial,(callsIn_wide.2 HPc.out).mono ?_⟩
    rintro e X ⟨er,rfl,M2,hgX,hp,hkm⟩
    have HKX:Hid (Kp V X (fun i=>Z i∨V0.heap.size<=i)):=hkm.kp.mono (fun i _ e=>.inl (HIV.out.sm e).1)
    by_cases hr:roomB M' (c,s)=true
    ·obtain⟨rfl,rfl⟩:=hp.yes hr
     obtain⟨Z',hZ1,hZ2⟩:=HIV.out.step HYk.out (hmC_gd (shH_ok _ _) HGu.out) HvC.out hr (Nat.le_trans HSW.out (Nat.le_of_lt HVV.out)) hgX hkm
     have HZ:Hid (∃Z',(∃M,FyI w3 w3.heap.size (w.heap.size+2) g2 G M0 Ys (k+1) Z' X M)/\More Z Z' V0):=⟨Z',⟨_,hZ1⟩,fun i hi=>(hZ2 i hi).imp id (fun q=>by have:=HVV.out;omega)⟩
     clear hZ1 hZ2 hgX hkm hp
     gi_wp2_with (fail)
     exact⟨HKX.out,HZ.out⟩
    ·obtain⟨rfl,rfl⟩:=hp.no hr
     have HFu:Hid (pts M0 Ys=none):=HIV.out.fail HYk.out hr
     have h6:¬G (w.heap.size+2):=fun e=>by have:=HG0.out _ e;omega
     have h7:¬G (w.heap.size+2+1):=fun e=>by have:=HG0.out _ e;omega
     have N6:Hid (Blk X (w.heap.size+2) [.pointer none] 24):=HIV.out.r6.kp hkm.kp (HIV.out.out h6 (by omega))
     have N7:Hid (Blk X (w.heap.size+2+1) [.int .i64 0] 39):=HIV.out.r7.kp hkm.kp (HIV.out.out h7 (by omega))
     have KwX:Hid (Kp w X Nul):=KV.out.trans' hkm.kp (fun i hi e=>HIV.out.out (fun q=>by have:=HG0.out _ q;omega) (by omega) e)
     have HZ6:Hid (Z (w.heap.size+2)/\Z (w.heap.size+2+1)):=HIV.out.z6
     clear hgX hkm hp h6 h7
     gi_wp2_with (first
      | (refine storeIn_var rfl 24 (.tmp 6) (.const (.pointer none)) rfl (w.heap.size+2) rfl (.pointer none) rfl rfl 24 _ N6.out (by kernel_rfl) ?_;intro Y hbY hkY;have HY6:Hid (Blk Y (w.heap.size+2) [.pointer none] 24):=hbY;have HY7:Hid (Blk Y (w.heap.size+2+1) [.int .i64 0] 39):=N7.out.kp hkY (by show ¬_=_;omega);have KY:Hid (Kp X Y (fun i=>i=w.heap.size+2)):=hkY;clear hbY hkY)
      | (refine storeIn_var rfl 39 (.tmp 7) (.tmp 44) rfl (w.heap.size+2+1) rfl (.int .i64 41) rfl rfl 39 _ HY7.out (by kernel_rfl) ?_;intro Y2 hb2 hk2;have HE6:Hid (Blk Y2 (w.heap.size+2) [.pointer none] 24):=HY6.out.kp hk2 (by show ¬_=_;omega);have HE7:Hid (Blk Y2 (w.heap.size+2+1) [.int .i64 41] 39):=hb2;have KE:Hid (Kp Y Y2 (fun i=>i=w.heap.size+2+1)):=hk2;clear hb2 hk2)
      | fail)
     have q1:Kp V Y2 (fun i=>Z i∨V0.heap.size<=i):=(HKX.out.trans (KY.out.mono (fun i _ e=>.inl (by have e':i=w.heap.size+2:=e;rw[e'];exact HZ6.out.1)))).trans (KE.out.mono (fun i _ e=>.inl (by have e':i=w.heap.size+2+1:=e;rw[e'];exact HZ6.out.2)))
     have q2:CyX w w3.heap.size (w.heap.size+2) M0 Ys Y2:=⟨HFu.out,HE6.out,HE7.out,(KwX.out.trans' KY.out (fun i hi e=>by have e':i=w.heap.size+2:=e;omega)).trans' KE.out (fun i hi e=>by have e':i=w.heap.size+2+1:=e;omega),by omega⟩
     exact⟨q1,q2⟩
   case hdone=>
    subst hact
    rintro D Z V hD ⟨M',h⟩ hDf
    have HI:Hid (FyI w3 w3.heap.size (w.heap.size+2) g2 G M0 Ys (szN A1 A2 A3 A4) Z V M'):=h
    have HPt:Hid (pts M0 Ys=some M'):=by
     have h1:=h.put
     rw[show szN A1 A2 A3 A4=Ys.length by rw[HYe.out];simp[flY]] at h1
     exact pts_all h1
    have HDf:Hid (V.heap[D]? = some (.deferred (some []))):=hDf
    have HD:Hid (D=w3.heap.size):=hD
    have N6:Hid (Blk V (w.heap.size+2) [.pointer none] 24):=h.r6
    have N7:Hid (Blk V (w.heap.size+2+1) [.int .i64 0] 39):=h.r7
    have c0:V.cell? ⟨x8,0,none⟩=some (.pointer (some ⟨g2,0,none⟩)):=((HF.out.c8.kp K3.out (fun x=>x)).kp h.kp (fun e=>(HG0.out _ e).2.2.1 rfl)).cell rfl
    clear h hDf hD
    go_wp2_with (first
     | (refine wpList_store_var rfl 24 (.tmp 6) (.tmp 45) rfl (w.heap.size+2) rfl (.pointer (some ⟨g2,0,none⟩)) rfl rfl 24 _ N6.out (by kernel_rfl) ?_;intro Y hbY hkY;have HY6:Hid (Blk Y (w.heap.size+2) [.pointer (some ⟨g2,0,none⟩)] 24):=hbY;have HY7:Hid (Blk Y (w.heap.size+2+1) [.int .i64 0] 39):=N7.out.kp hkY (by show ¬_=_;omega);have KY:Hid (Kp V Y (fun i=>i=w.heap.size+2∨i=w.heap.size+2+1)):=hkY.mono (fun _ _ e=>.inl e);clear hbY hkY)
     | (refine wpList_store_var rfl 39 (.tmp 7) (.const (.int .i64 0)) rfl (w.heap.size+2+1) rfl (.int .i64 0) rfl rfl 39 _ HY7.out (by kernel_rfl) ?_;intro Y2 hb2 hk2;have HE6:Hid (Blk Y2 (w.heap.size+2) [.pointer (some ⟨g2,0,none⟩)] 24):=HY6.out.kp hk2 (by show ¬_=_;omega);have HE7:Hid (Blk Y2 (w.heap.size+2+1) [.int .i64 0] 39):=hb2;have KE:Hid (Kp V Y2 (fun i=>i=w.heap.size+2∨i=w.heap.size+2+1)):=KY.out.trans (hk2.mono (fun _ _ e=>.inr e));clear hb2 hk2)
     | fail)
    have hd:=HD.out
    have hD2:Y2.heap[D]? = some (.deferred (some [])):=(KE.out.block D (Array.getElem?_eq_some_iff.1 HDf.out).1 (fun e=>by rcases e with e|e <;> omega)).trans HDf.out
    refine⟨by simp,.inl ⟨_,_,rfl,run_takeDeferred hD2,?_⟩⟩
    have c1:(Y2.putObj D (.deferred none)).cell? ⟨w.heap.size+2,0,none⟩=some (.pointer (some ⟨g2,0,none⟩)):=(HE6.out.kp putObj_self (by show ¬_=_;omega)).cell rfl
    have c2:(Y2.putObj D (.deferred none)).cell? ⟨w.heap.size+2+1,0,none⟩=some (.int .i64 0):=(HE7.out.kp putObj_self (by show ¬_=_;omega)).cell rfl
    refine⟨_,results_vars rfl _ _ (w.heap.size+2) (w.heap.size+2+1) (.pointer (some ⟨g2,0,none⟩)) (.int .i64 0) rfl rfl ?_ ?_,_,M0,rfl,?_⟩
    ·clear c2 hd c0;go_simp
    ·clear c1 hd c0;go_simp
    ·refine⟨HF.out.mem,HOn0.out,HF.out.ok,putObj_kp (((K05.out.trans K3.out).trans' HI.out.kp (fun i hi e=>by have:=HG0.out i e;omega)).trans' KE.out (fun i hi e=>by rcases e with e|e <;> omega)) (by omega),(fun e=>by rw[HPt.out] at e;cases e),fun M1 e=>?_⟩
     rw[HPt.out] at e
     cases e
     refine⟨g2,rfl,((HI.out.gi.far' KE.out (fun i hi e=>by rcases e with e|e;exact hi.2.1 e;exact hi.2.2 e)).far' putObj_self (fun i hi e=>by have e':i=D:=e;rcases(HI.out.zl i hi.1).2 with q|q|q <;> first|omega|(have:=HI.out.g0 _ q;omega))).mono (fun i hi=>?_),HI.out.ok⟩
     show w.heap.size<=i
     rcases(HI.out.zl i hi.1).2 with q|q|q <;> first|omega|(have:=HG0.out _ q;omega)
   case hstop=>
    subst hact
    rintro D V hD h hDf
    have HI:Hid (CyX w w3.heap.size (w.heap.size+2) M0 Ys V):=h
    have HDf:Hid (V.heap[D]? = some (.deferred (some []))):=hDf
    have HD:Hid (D=w3.heap.size):=hD
    clear h hDf hD
    go_wp2_with fail
    have hd:=HD.out
    refine⟨by simp,.inl ⟨_,_,rfl,run_takeDeferred HDf.out,?_⟩⟩
    have c1:(V.putObj D (.deferred none)).cell? ⟨w.heap.size+2,0,none⟩=some (.pointer none):=(HI.out.r6.kp putObj_self (by show ¬_=_;omega)).cell rfl
    have c2:(V.putObj D (.deferred none)).cell? ⟨w.heap.size+2+1,0,none⟩=some (.int .i64 41):=(HI.out.r7.kp putObj_self (by show ¬_=_;omega)).cell rfl
    refine⟨_,results_vars rfl _ _ (w.heap.size+2) (w.heap.size+2+1) (.pointer none) (.int .i64 41) rfl rfl ?_ ?_,_,M0,rfl,?_⟩
    ·clear c2 hd;go_simp
    ·clear c1 hd;go_simp
    ·exact⟨HF.out.mem,HOn0.out,HF.out.ok,putObj_kp HI.out.kp (by omega),fun _=>rfl,fun M1 e=>by rw[HI.out.full] at e;cases e⟩
end Go.Proofs.YtecjfnkakodebaaGreatDoor
