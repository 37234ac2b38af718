/-Move: along. -/
import Derived.Test.YtecjfnkakodebaaGreatDoorQwMvd
import Derived.Test.YtecjfnkakodebaaGreatDoorQwIr
set_option maxRecDepth 20000
set_option maxHeartbeats 16000000
namespace Go.Proofs.YtecjfnkakodebaaGreatDoor
open Go.RowKit
abbrev alF (pf pw:Nat):Value:=.func (.func 141) #[] #[.pointer (some ⟨pf,0,none⟩),.pointer (some ⟨pw,0,none⟩)]
structure AlE (w:World) (pf pw xc xr:Nat) (cols:Bool) (at' n:Int):Prop where
 f:Blk w pf [fateF xc xr] 115
 g:Blk w pw [alF pf pw] 119
 k:KeptIn w xc xr cols at' n
theorem AlE.kp {w w':World} {pf pw xc xr:Nat} {cols:Bool} {at' n:Int} {S:Nat->Prop} (h:AlE w pf pw xc xr cols at' n) (k:Kp w w' S) (hS:∀i,S i->∃cs:Array Value,w.heap[i]? = some (.cells cs 48 (0,0))):AlE w' pf pw xc xr cols at' n:=by
 have ne:∀ {b:Nat} {cs:List Value} {t:TypeId},Blk w b cs t->t ≠ 48->¬S b:=fun {b cs t} hb ht q=>by
  obtain⟨cs',e⟩:=hS b q
  unfold Blk at hb
  rw[hb] at e
  simp only[Option.some.injEq,Obj.cells.injEq] at e
  exact ht e.2.1
 exact⟨h.f.kp k (ne h.f (by decide)),h.g.kp k (ne h.g (by decide)),h.k.c.kp k (ne h.k.c (by decide)),h.k.r.kp k (ne h.k.r (by decide))⟩
theorem AlE.nul {w w':World} {pf pw xc xr:Nat} {cols:Bool} {at' n:Int} (h:AlE w pf pw xc xr cols at' n) (k:Kp w w' Nul):AlE w' pf pw xc xr cols at' n:=h.kp k (fun _ q=>q.elim)
structure AlR (f:Fate) (t:Nd) (fp:List Nat) (w w':World) (sl':Value) (fp':List Nat):Prop where
 own:NdOwn w' sl' (alN f t) fp'
 sub:fp'.Sublist fp
 kp:Kp w w' (fun i=>i∈fp)
structure AlS (w':World) (N:Nat) (nc:List Value) (pw:Nat) (fv:Value) (A:Nat) (ac:List Value):Prop where
 n:Blk w' N nc 48
 w:Blk w' pw [fv] 119
 a:Blk w' A ac 48
theorem AlS.kp {w1 w2:World} {N pw A:Nat} {nc ac:List Value} {fv:Value} {S:Nat->Prop} (h:AlS w1 N nc pw fv A ac) (k:Kp w1 w2 S) (h1:¬S N) (h2:¬S pw) (h3:¬S A):AlS w2 N nc pw fv A ac:=⟨h.n.kp k h1,h.w.kp k h2,h.a.kp k h3⟩
theorem AlS.nul {w1 w2:World} {N pw A:Nat} {nc ac:List Value} {fv:Value} (h:AlS w1 N nc pw fv A ac) (k:Kp w1 w2 Nul):AlS w2 N nc pw fv A ac:=h.kp k (fun x=>x) (fun x=>x) (fun x=>x)
theorem AlS.n14 {w1:World} {N pw A:Nat} {nc ac:List Value} {fv v:Value} (h:AlS w1 N nc pw fv A ac) (hv:nc[14]? = some v):w1.cell? ⟨N,14,none⟩=some v:=h.n.cell hv
theorem AlS.w0 {w1:World} {N pw A:Nat} {nc ac:List Value} {fv:Value} (h:AlS w1 N nc pw fv A ac):w1.cell? ⟨pw,0,none⟩=some fv:=h.w.cell rfl
theorem Kp.of_size {w w1 w2:World} {S T:Nat->Prop} (h:Kp w w1 S) (k:Kp w1 w2 T) (hT:∀i,i<w.heap.size->¬T i):Kp w w2 S:=
 ⟨k.os.trans h.os,k.tape.trans h.tape,k.output.trans h.output,Nat.le_trans h.size k.size,fun i hi hs=>(k.block i (Nat.lt_of_lt_of_le hi h.size) (hT i hi)).trans (h.block i hi hs)⟩
def nmFp (f:Fate) (h:Hd) (fp:List Nat):List Nat:=match f (nmA h) with
 | none=>[]
 | some _=>fp
theorem nm_own (f:Fate) (hd:Hd) (ts:List Nd) (sl:Value) (fp:List Nat) (w w':World) (h:NdOwn w sl (.mk hd ts) fp) (k:Kp w w' Nul) (hk:hd.k=5∨hd.k=6):AlR f (.mk hd ts) fp w w' (nmS f hd sl) (nmFp f hd fp):=by
 have h':NdOwn w' sl (.mk hd ts) fp:=h.mono (fun b hb=>k.block b (node_lt (h.node b hb)) (fun x=>x))
 have e:alN f (.mk hd ts)=nmN f (.mk hd ts):=by rw[alN,if_pos hk]
 unfold nmS nmFp
 refine⟨?_,?_,k.mono (fun _ _ q=>q.elim)⟩
 ·rw[e]
  unfold nmN
  simp only[Nd.hd,Nd.ts]
  cases f (nmA hd) with
  | none=>exact .inl ⟨rfl,rfl,rfl⟩
  | some a=>rw[NdOwn] at h' ⊢;exact h'
 ·cases f (nmA hd) with
  | none=>exact List.nil_sublist _
  | some a=>exact List.Sublist.refl _
theorem along1_any (pf pw xc xr:Nat) (cols:Bool) (at' n':Int) (hl:lnOk cols at' n') (N:Nat):∀(t:Nd) (sl:Value) (fp:List Nat) (w:World),t.size<=N->NdOwn w sl t fp->fp.Nodup->AlE w pf pw xc xr cols at' n' ->
  Calls Tryz.prog 141 #[t.hd.val sl,.pointer (some ⟨pf,0,none⟩),.pointer (some ⟨pw,0,none⟩)] w fun e w'=>∃sl' fp',e=.returned ((alN (lnF cols at' n') t).hd.val sl')/\AlR (lnF cols at' n') t fp w w' sl' fp':=by
 induction N with
 | zero=>intro t sl fp w h;have:=size_pos t;omega
 | succ N ih=>
  intro t sl fp w hN hown hnd hE
  have IH:Hid (∀(t:Nd) (sl:Value) (fp:List Nat) (w:World),t.size<=N->NdOwn w sl t fp->fp.Nodup->AlE w pf pw xc xr cols at' n' ->
   Calls Tryz.prog 141 #[t.hd.val sl,.pointer (some ⟨pf,0,none⟩),.pointer (some ⟨pw,0,none⟩)] w fun e w'=>∃sl' fp',e=.returned ((alN (lnF cols at' n') t).hd.val sl')/\AlR (lnF cols at' n') t fp w w' sl' fp'):=ih
  have HNm:Hid (∀(hd:Hd) (ts:List Nd) (sl:Value),sl.oneCell'=true->∀w,KeptIn w xc xr cols at' n'->Calls Tryz.prog 142 #[.agg #[fateF xc xr],hd.val sl] w fun e w'=>e=.returned ((nmN (lnF cols at' n') (.mk hd ts)).hd.val (nmS (lnF cols at' n') hd sl))/\Kp w w' Nul):=fun hd ts sl hs w hk=>named_ln xc xr cols at' n' hl hd ts sl hs w hk
  generalize lnF cols at' n'=f at *
  have O1:Hid (sl.oneCell'=true):=hown.one
  have HE:Hid (AlE w pf pw xc xr cols at' n'):=hE
  have HOwn:Hid (NdOwn w sl t fp):=hown
  have HNd:Hid (fp.Nodup):=hnd
  have HN:Hid (t.size<=N+1):=hN
  clear ih hown hnd hE hl hN
  obtain⟨hd,ts⟩:=t
  change Calls Tryz.prog _ #[hd.val sl,_,_] w _
  obtain⟨W0,hW0⟩:∃W0,(w.alloc (.cells (hd.cells sl).toArray 48)).alloc (.cells #[.int .i64 0,.int .i64 0,.float .f64 0,.string ⟨#[]⟩,.bool false,.int .i64 0,.int .i64 0,.int .i64 0,.bool false,.bool false,.int .i64 0,.int .i64 0,.bool false,.bool false,.slice none 0 0] 48)=W0:=⟨_,rfl⟩
  have k0:Hid (Kp w W0 Nul):=by show Kp _ _ _;rw[<- hW0];exact((Kp.refl w Nul).alloc _).alloc _
  have b1:Hid (Blk W0 w.heap.size (hd.cells sl) 48):=by show Blk _ _ _ _;rw[<- hW0];exact(Blk.new w _ _).alloc _
  have b2:Hid (Blk W0 (w.heap.size+1) [.int .i64 0,.int .i64 0,.float .f64 0,.string ⟨#[]⟩,.bool false,.int .i64 0,.int .i64 0,.int .i64 0,.bool false,.bool false,.int .i64 0,.int .i64 0,.bool false,.bool false,.slice none 0 0] 48):=by
   show Blk _ _ _ _;rw[<- hW0]
   have:=Blk.new (w.alloc (.cells (hd.cells sl).toArray 48)) [.int .i64 0,.int .i64 0,.float .f64 0,.string ⟨#[]⟩,.bool false,.int .i64 0,.int .i64 0,.int .i64 0,.bool false,.bool false,.int .i64 0,.int .i64 0,.bool false,.bool false,.slice none 0 0] 48
   rw[World.size_alloc] at this
   exact this
  obtain⟨k,o',x,s,bb,ff,c1,r1,p1,q1,c2,r2,p2,q2⟩:=hd
  by_cases hk:k=5∨k=6
  ·rcases hk with hk|hk
   ·subst hk
    have y0:W0.cell? ⟨w.heap.size,0,none⟩=some (.int .i64 5):=b1.out.cell rfl
    have y1:W0.cell? ⟨pf,0,none⟩=some (fateF xc xr):=(HE.out.nul k0.out).f.cell rfl
    have hal:alN f (.mk ⟨5,o',x,s,bb,ff,c1,r1,p1,q1,c2,r2,p2,q2⟩ ts)=nmN f (.mk ⟨5,o',x,s,bb,ff,c1,r1,p1,q1,c2,r2,p2,q2⟩ ts):=by rw[alN,if_pos (by simp)]
    have HR:Hid (∀w',Kp w w' Nul->AlR f (.mk ⟨5,o',x,s,bb,ff,c1,r1,p1,q1,c2,r2,p2,q2⟩ ts) fp w w' (nmS f ⟨5,o',x,s,bb,ff,c1,r1,p1,q1,c2,r2,p2,q2⟩ sl) (nmFp f ⟨5,o',x,s,bb,ff,c1,r1,p1,q1,c2,r2,p2,q2⟩ fp)):=fun w' kw=>nm_own f ⟨5,o',x,s,bb,ff,c1,r1,p1,q1,c2,r2,p2,q2⟩ ts sl fp w w' HOwn.out kw (by simp)
    have HCl:Hid (Calls Tryz.prog 142 #[.agg #[fateF xc xr],Hd.val ⟨5,o',x,s,bb,ff,c1,r1,p1,q1,c2,r2,p2,q2⟩ sl] W0 fun e w'=>e=.returned ((nmN f (.mk ⟨5,o',x,s,bb,ff,c1,r1,p1,q1,c2,r2,p2,q2⟩ ts)).hd.val (nmS f ⟨5,o',x,s,bb,ff,c1,r1,p1,q1,c2,r2,p2,q2⟩ sl))/\Kp W0 w' Nul):=HNm.out ⟨5,o',x,s,bb,ff,c1,r1,p1,q1,c2,r2,p2,q2⟩ ts sl O1.out W0 (HE.out.nul k0.out).k
    have OS:Hid ((nmS f ⟨5,o',x,s,bb,ff,c1,r1,p1,q1,c2,r2,p2,q2⟩ sl).oneCell'=true):=by
     show _=_;unfold nmS;split
     ·rfl
     ·exact O1.out
    rw[hal]
    clear HNm HE HOwn HNd HN IH hal
    generalize (nmN f (.mk ⟨5,o',x,s,bb,ff,c1,r1,p1,q1,c2,r2,p2,q2⟩ ts)).hd=hh at *
    generalize nmS f ⟨5,o',x,s,bb,ff,c1,r1,p1,q1,c2,r2,p2,q2⟩ sl=sl2 at *
    generalize nmFp f ⟨5,o',x,s,bb,ff,c1,r1,p1,q1,c2,r2,p2,q2⟩ fp=fp2 at *
    go_enter Tryz.func141,Tryz.ntmps141
    go_wp2_with (first|(refine wpList_load_mid rfl 48 (.tmp 3) rfl w.heap.size 0 rfl (Hd.cells ⟨5,o',x,s,bb,ff,c1,r1,p1,q1,c2,r2,p2,q2⟩ sl) _ (blk_range b1.out) Tryz.underlying48 rfl infoNode ?_)|fail)
    refine HCl.out.mono ?_
    rintro e w1 ⟨rfl,hk1⟩
    have b2':=b2.out.kp hk1 (fun x=>x)
    have HB2:Hid (Blk w1 (w.heap.size+1) [.int .i64 0,.int .i64 0,.float .f64 0,.string ⟨#[]⟩,.bool false,.int .i64 0,.int .i64 0,.int .i64 0,.bool false,.bool false,.int .i64 0,.int .i64 0,.bool false,.bool false,.slice none 0 0] 48):=b2'
    clear b2'
    go_wp2_with (first|(refine wpList_store_blk rfl 48 (.tmp 4) (.tmp 14) rfl (w.heap.size+1) _ (hh.cells sl2) _ HB2.out rfl rfl rfl infoNode (hh.one OS.out) ?_;intro w2 hb2 hk2)|fail)
    refine bodyPost_ret (results_cell_row rfl _ _ (w.heap.size+1) 48 _ (0,0) _ rfl hb2 Tryz.underlying48 rfl infoNode) rfl ?_
    exact⟨sl2,fp2,rfl,HR.out w2 ((k0.out.trans hk1).trans' hk2 (fun i hi e=>by have:i=w.heap.size+1:=e;omega))⟩
   ·subst hk
    have y0:W0.cell? ⟨w.heap.size,0,none⟩=some (.int .i64 6):=b1.out.cell rfl
    have y1:W0.cell? ⟨pf,0,none⟩=some (fateF xc xr):=(HE.out.nul k0.out).f.cell rfl
    have hal:alN f (.mk ⟨6,o',x,s,bb,ff,c1,r1,p1,q1,c2,r2,p2,q2⟩ ts)=nmN f (.mk ⟨6,o',x,s,bb,ff,c1,r1,p1,q1,c2,r2,p2,q2⟩ ts):=by rw[alN,if_pos (by simp)]
    have HR:Hid (∀w',Kp w w' Nul->AlR f (.mk ⟨6,o',x,s,bb,ff,c1,r1,p1,q1,c2,r2,p2,q2⟩ ts) fp w w' (nmS f ⟨6,o',x,s,bb,ff,c1,r1,p1,q1,c2,r2,p2,q2⟩ sl) (nmFp f ⟨6,o',x,s,bb,ff,c1,r1,p1,q1,c2,r2,p2,q2⟩ fp)):=fun w' kw=>nm_own f ⟨6,o',x,s,bb,ff,c1,r1,p1,q1,c2,r2,p2,q2⟩ ts sl fp w w' HOwn.out kw (by simp)
    have HCl:Hid (Calls Tryz.prog 142 #[.agg #[fateF xc xr],Hd.val ⟨6,o',x,s,bb,ff,c1,r1,p1,q1,c2,r2,p2,q2⟩ sl] W0 fun e w'=>e=.returned ((nmN f (.mk ⟨6,o',x,s,bb,ff,c1,r1,p1,q1,c2,r2,p2,q2⟩ ts)).hd.val (nmS f ⟨6,o',x,s,bb,ff,c1,r1,p1,q1,c2,r2,p2,q2⟩ sl))/\Kp W0 w' Nul):=HNm.out ⟨6,o',x,s,bb,ff,c1,r1,p1,q1,c2,r2,p2,q2⟩ ts sl O1.out W0 (HE.out.nul k0.out).k
    have OS:Hid ((nmS f ⟨6,o',x,s,bb,ff,c1,r1,p1,q1,c2,r2,p2,q2⟩ sl).oneCell'=true):=by
     show _=_;unfold nmS;split
     ·rfl
     ·exact O1.out
    rw[hal]
    clear HNm HE HOwn HNd HN IH hal
    generalize (nmN f (.mk ⟨6,o',x,s,bb,ff,c1,r1,p1,q1,c2,r2,p2,q2⟩ ts)).hd=hh at *
    generalize nmS f ⟨6,o',x,s,bb,ff,c1,r1,p1,q1,c2,r2,p2,q2⟩ sl=sl2 at *
    generalize nmFp f ⟨6,o',x,s,bb,ff,c1,r1,p1,q1,c2,r2,p2,q2⟩ fp=fp2 at *
    go_enter Tryz.func141,Tryz.ntmps141
    go_wp2_with (first|(refine wpList_load_mid rfl 48 (.tmp 3) rfl w.heap.size 0 rfl (Hd.cells ⟨6,o',x,s,bb,ff,c1,r1,p1,q1,c2,r2,p2,q2⟩ sl) _ (blk_range b1.out) Tryz.underlying48 rfl infoNode ?_)|fail)
    refine HCl.out.mono ?_
    rintro e w1 ⟨rfl,hk1⟩
    have b2':=b2.out.kp hk1 (fun x=>x)
    have HB2:Hid (Blk w1 (w.heap.size+1) [.int .i64 0,.int .i64 0,.float .f64 0,.string ⟨#[]⟩,.bool false,.int .i64 0,.int .i64 0,.int .i64 0,.bool false,.bool false,.int .i64 0,.int .i64 0,.bool false,.bool false,.slice none 0 0] 48):=b2'
    clear b2'
    go_wp2_with (first|(refine wpList_store_blk rfl 48 (.tmp 4) (.tmp 14) rfl (w.heap.size+1) _ (hh.cells sl2) _ HB2.out rfl rfl rfl infoNode (hh.one OS.out) ?_;intro w2 hb2 hk2)|fail)
    refine bodyPost_ret (results_cell_row rfl _ _ (w.heap.size+1) 48 _ (0,0) _ rfl hb2 Tryz.underlying48 rfl infoNode) rfl ?_
    exact⟨sl2,fp2,rfl,HR.out w2 ((k0.out.trans hk1).trans' hk2 (fun i hi e=>by have:i=w.heap.size+1:=e;omega))⟩
  ·have HK5:Hid (¬k=5):=fun e=>hk (.inl e)
   have HK6:Hid (¬k=6):=fun e=>hk (.inr e)
   have e5:(k==5)=false:=by simpa using HK5.out
   have e6:(k==6)=false:=by simpa using HK6.out
   have y0:W0.cell? ⟨w.heap.size,0,none⟩=some (.int .i64 k):=b1.out.cell rfl
   have hal:alN f (.mk ⟨k,o',x,s,bb,ff,c1,r1,p1,q1,c2,r2,p2,q2⟩ ts)=.mk ⟨k,o',x,s,bb,ff,c1,r1,p1,q1,c2,r2,p2,q2⟩ (alL f ts):=by rw[alN,if_neg hk]
   rw[hal]
   have hown:=HOwn.out
   rw[NdOwn] at hown
   rcases hown with ⟨rfl,rfl,rfl⟩|⟨b,c,fps,cs,rfl,h2,h3,h4,h5,h6,rfl,h8⟩
   ·have y14:W0.cell? ⟨w.heap.size,14,none⟩=some (.slice none 0 0):=b1.out.cell rfl
    have HR:Hid (∀w',Kp w w' Nul->AlR f (.mk ⟨k,o',x,s,bb,ff,c1,r1,p1,q1,c2,r2,p2,q2⟩ []) [] w w' (.slice none 0 0) []):=fun w' kw=>⟨by rw[hal,alL,NdOwn];exact .inl ⟨rfl,rfl,rfl⟩,List.Sublist.refl _,kw.mono (fun _ _ q=>q.elim)⟩
    clear HNm IH HOwn HNd HN hal hk
    go_enter Tryz.func141,Tryz.ntmps141
    go_wp2_with fail
    go_loopw[18] (fun i wr=>i=.int .i64 0/\wr=W0) (fun _ _=>0)
    case atStart=>exact⟨rfl,rfl⟩
    case round=>
     obtain⟨rfl,rfl⟩:=hrel
     go_wp2_with (first
      | (refine wpList_load_mid rfl 48 (.tmp 3) rfl w.heap.size 0 rfl (Hd.cells ⟨k,o',x,s,bb,ff,c1,r1,p1,q1,c2,r2,p2,q2⟩ (.slice none 0 0)) _ (blk_range b1.out) Tryz.underlying48 rfl infoNode ?_)
      | (refine wpList_store_blk rfl 48 (.tmp 4) (.tmp 31) rfl (w.heap.size+1) _ (Hd.cells ⟨k,o',x,s,bb,ff,c1,r1,p1,q1,c2,r2,p2,q2⟩ (.slice none 0 0)) _ b2.out rfl rfl rfl infoNode (Hd.one ⟨k,o',x,s,bb,ff,c1,r1,p1,q1,c2,r2,p2,q2⟩ rfl) ?_;intro w2 hb2 hk2)
      | fail)
     refine bodyPost_ret (results_cell_row rfl _ _ (w.heap.size+1) 48 _ (0,0) _ rfl hb2 Tryz.underlying48 rfl infoNode) rfl ?_
     first
     | exact⟨_,HR.out w2 (k0.out.trans' hk2 (fun i hi e=>by have:i=w.heap.size+1:=e;omega))⟩
     | exact⟨_,_,rfl,HR.out w2 (k0.out.trans' hk2 (fun i hi e=>by have:i=w.heap.size+1:=e;omega))⟩
   ·have HAt0:Hid (AlAt f w W0 b c 0 ts fps [] fps):=(AlAt.start h5 h6 h8).nul k0.out
    have HCL:Hid (ts.length<=c):=h3
    have HCm:Hid (c<=maxLen):=h4
    have HNb:Hid ((b::fps).Nodup):=HNd.out
    have HTs:Hid (ts≠[]):=h2
    have HSz:Hid (sizeL ts<=N):=by show _<=_;have:=HN.out;rw[Nd.size] at this;omega
    have HLt:Hid (∀i∈b::fps,i<w.heap.size):=fun i hi=>node_lt (HOwn.out.node i hi)
    have HNode:Hid (∀i∈b::fps,∃cs:Array Value,W0.heap[i]? = some (.cells cs 48 (0,0))):=fun i hi=>by
     obtain⟨cs,e⟩:=HOwn.out.node i hi
     exact⟨cs,(k0.out.block i (node_lt ⟨cs,e⟩) (fun x=>x)).trans e⟩
    have HE0:Hid (AlE W0 pf pw xc xr cols at' n'):=HE.out.nul k0.out
    have y14:W0.cell? ⟨w.heap.size,14,none⟩=some (.slice (some ⟨b,0,none⟩) ts.length c):=b1.out.cell rfl
    have hlen:ts.length<=9223372036854775807:=by unfold maxLen at h4;omega
    generalize hn:ts.length=n at *
    have HL:Hid (ts.length=n):=hn
    have HLen:Hid (n<=9223372036854775807):=hlen
    clear HNm HOwn HNd HN hal hk h2 h3 h4 h5 h6 h8 hn hlen
    go_enter Tryz.func141,Tryz.ntmps141
    go_wp2_with fail
    go_loopw[18] (fun i wr=>∃(q:Nat) (fa fb:List Nat),q<=n/\i=.int .i64 q/\AlAt f w wr b c q ts fps fa fb/\Kp W0 wr (fun i=>i∈b::fps)) (fun i _=>n-(RowKit.intOf i).toNat)
    case atStart=>exact⟨0,[],fps,Nat.zero_le _,rfl,HAt0.out,Kp.refl _ _⟩
    case round=>
     clear HAt0 y0 y14
     obtain⟨q,fa,fb,hq,rfl,hat,hkw⟩:=hrel
     have HAt:Hid (AlAt f w wr b c q ts fps fa fb):=hat
     have HKW:Hid (Kp W0 wr (fun i=>i∈b::fps)):=hkw
     have HN1:Hid (Blk wr w.heap.size (Hd.cells ⟨k,o',x,s,bb,ff,c1,r1,p1,q1,c2,r2,p2,q2⟩ (.slice (some ⟨b,0,none⟩) n c)) 48):=b1.out.kp hkw (fun e=>by have:=HLt.out _ e;omega)
     have HN2:Hid (Blk wr (w.heap.size+1) [.int .i64 0,.int .i64 0,.float .f64 0,.string ⟨#[]⟩,.bool false,.int .i64 0,.int .i64 0,.int .i64 0,.bool false,.bool false,.int .i64 0,.int .i64 0,.bool false,.bool false,.slice none 0 0] 48):=b2.out.kp hkw (fun e=>by have:=HLt.out _ e;omega)
     have HEr:Hid (AlE wr pf pw xc xr cols at' n'):=HE0.out.kp hkw HNode.out
     clear hat hkw
     by_cases hlt:q<n
     ·have hqt:q<ts.length:=by rw[HL.out];exact hlt
      obtain⟨slq,f1,f2,hrg,hno,hfb,hrs⟩:=HAt.out.next hqt
      have HRG:Hid (wr.rangeAt b (q*15) ((ts[q]).hd.cells slq)):=hrg
      have O3:Hid (slq.oneCell'=true):=hno.one
      have HFb:Hid (fb=f1++f2):=hfb
      have HRs:Hid (NdsOwn wr b ((q+1)*15) (ts.drop (q+1)) f2):=hrs
      have HF1:Hid (∀i∈f1,i∈fps):=fun i hi=>by
       obtain⟨fA,e1,_⟩:=HAt.out.sub
       rw[e1,hfb]
       exact List.mem_append_right _ (List.mem_append_left _ hi)
      have HBf:Hid (b∉f1):=fun e=>(List.nodup_cons.1 HNb.out).1 (HF1.out b e)
      have hnf:f1.Nodup:=by
       obtain⟨fA,e1,_⟩:=HAt.out.sub
       have:=(List.nodup_cons.1 HNb.out).2
       rw[e1,hfb,List.nodup_append] at this
       exact(List.nodup_append.1 this.2.1).1
      have HCall:Hid (∀wq,Kp (wr.alloc (.cells ((ts[q]).hd.cells slq).toArray 48)) wq Nul->Calls Tryz.prog 141 #[(ts[q]).hd.val slq,.pointer (some ⟨pf,0,none⟩),.pointer (some ⟨pw,0,none⟩)] wq fun e w'=>∃sl' fp',e=.returned ((alN f ts[q]).hd.val sl')/\AlR f ts[q] f1 wq w' sl' fp'):=fun wq kq=>by
       have kk:Kp wr wq Nul:=((Kp.refl wr Nul).alloc _).trans kq
       exact IH.out ts[q] slq f1 wq (by have:=HSz.out;have:=size_get ts q hqt;omega) (hno.mono (fun i hi=>kk.block i (node_lt (hno.node i hi)) (fun x=>x))) hnf (HEr.out.nul kk)
      have hw1:w.heap.size+1<wr.heap.size:=HN2.out.lt
      have hpw:=HEr.out.g.lt
      have hNpw:∀i∈f1,i≠pw:=fun i hi e=>by
       obtain⟨cs,q1⟩:=hno.node i hi
       have q2:=HEr.out.g
       unfold Blk at q2
       rw[e,q2] at q1
       simp at q1
      have HNot:Hid ((¬w.heap.size∈f1)/\(¬pw∈f1)/\(¬wr.heap.size∈f1)):=⟨fun e=>by have:=HLt.out _ (List.mem_cons_of_mem _ (HF1.out _ e));omega,fun e=>hNpw pw e rfl,fun e=>by have:=node_lt (hno.node _ e);omega⟩
      have HNb2:Hid (b≠w.heap.size/\b≠pw/\b≠wr.heap.size):=⟨by have:=HLt.out b List.mem_cons_self;omega,fun e=>by
       obtain⟨cs,q1,_⟩:=HAt.out.row
       have q2:=HEr.out.g
       unfold Blk at q2
       rw[e,q2] at q1
       simp at q1,by have:=HLt.out b List.mem_cons_self;omega⟩
      have HC:Hid (q<c):=by show _<_;have:=HCL.out;omega
      have hq0:(0:Int)<=(q:Int):=by omega
      have hqn:(q:Int)<(n:Int):=by omega
      have hkb:(q:Int)+1<=9223372036854775807:=by have:=HLen.out;omega
      have HSA:Hid (AlS (wr.alloc (.cells ((ts[q]).hd.cells slq).toArray 48)) w.heap.size (Hd.cells ⟨k,o',x,s,bb,ff,c1,r1,p1,q1,c2,r2,p2,q2⟩ (.slice (some ⟨b,0,none⟩) n c)) pw (alF pf pw) wr.heap.size ((ts[q]).hd.cells slq)):=⟨HN1.out.alloc _,HEr.out.g.alloc _,Blk.new _ _ _⟩
      clear hrg hno hfb hrs hnf hw1 hpw hNpw HEr HE0
      obtain⟨hh,hhe⟩:∃hh,(ts[q]).hd=hh:=⟨_,rfl⟩
      rw[hhe] at HRG HCall HSA
      clear hhe
      go_wp2_with (first
       | (refine wpList_load_mid rfl 48 (.tmp 21) rfl b (q*15) rfl (hh.cells slq) _ HRG.out Tryz.underlying48 rfl infoNode ?_)
       | (refine wpList_store_new rfl 48 (.tmp 6) (.tmp 22) rfl _ _ _ _ _ (by first|rfl|simp) rfl rfl rfl infoNode (hh.one O3.out) ?_)
       | fail)
      refine wp_region_noPanic ?_
      refine wp_region_hel (fun w':World=>AlS w' w.heap.size (Hd.cells ⟨k,o',x,s,bb,ff,c1,r1,p1,q1,c2,r2,p2,q2⟩ (.slice (some ⟨b,0,none⟩) n c)) pw (alF pf pw) wr.heap.size (hh.cells slq)) (by kernel_rfl) (HSA.out.nul ((Kp.refl _ _).drew)) (fun hHeld=>?_)
      refine wpH_takes (i:=0) (v:=?_) (some 23) rfl rfl (by kernel_rfl) (fun _ _ _ h=>h) (Or.inl ⟨by rfl,?_⟩) hHeld ?_
      rotate_left
      ·intro w' hSw;have s0:=hSw.n14 rfl;have s1:=hSw.w0;clear hSw;go_simp;try with_reducible rfl
      simp only[Act.put,Sz0,Sz1,Sz2]
      refine wpH_takes (i:=1) (v:=?_) (some 24) rfl rfl (by kernel_rfl) (fun _ _ _ h=>h) (Or.inl ⟨by rfl,?_⟩) hHeld ?_
      rotate_left
      ·intro w' hSw;have s0:=hSw.n14 rfl;have s1:=hSw.w0;clear hSw;go_simp;try with_reducible rfl
      simp only[Act.put,Sz0,Sz1,Sz2]
      refine wpH_takes (i:=2) (v:=?_) (some 25) rfl rfl (by kernel_rfl) (fun _ _ _ h=>h) (Or.inl ⟨by rfl,?_⟩) hHeld ?_
      rotate_left
      ·intro w' hSw;have s0:=hSw.n14 rfl;have s1:=hSw.w0;clear hSw;go_simp;try with_reducible rfl
      simp only[Act.put,Sz0,Sz1,Sz2]
      refine wpH_takes (i:=3) (v:=?_) (some 26) rfl rfl (by kernel_rfl) (fun _ _ _ h=>h) (Or.inl ⟨by rfl,?_⟩) hHeld ?_
      rotate_left
      ·intro w' hSw;have s0:=hSw.n14 rfl;have s1:=hSw.w0;clear hSw;go_simp;try with_reducible rfl
      simp only[Act.put,Sz0,Sz1,Sz2]
      refine wpH_takes (i:=4) (v:=.agg (hh.cells slq).toArray) (some 27) rfl rfl (by kernel_rfl) (fun _ _ _ h=>h) (Or.inl ⟨by rfl,fun w' hSw=>exec_load_row 48 (.tmp 6) rfl wr.heap.size 0 rfl (hh.cells slq) _ (blk_range hSw.a) Tryz.underlying48 rfl infoNode⟩) hHeld ?_
      simp only[Act.put,Sz0,Sz1,Sz2]
      refine wpH_step (i:=5) (by kernel_rfl) rfl rfl (fun K hK=>?_)
      go_simp
      refine(HCall.out _ ((Kp.refl _ _).drew)).mono ?_
      rintro e w1 ⟨sl',f1',rfl,hR⟩
      have kA:Kp wr w1 (fun i=>i∈f1):=(((Kp.refl wr _).alloc _).drew).trans hR.kp
      have HR1:Hid (NdOwn w1 sl' (alN f ts[q]) f1'/\f1'.Sublist f1/\Kp wr w1 (fun i=>i∈f1)):=⟨hR.own,hR.sub,kA⟩
      have HSB:Hid (AlS w1 w.heap.size (Hd.cells ⟨k,o',x,s,bb,ff,c1,r1,p1,q1,c2,r2,p2,q2⟩ (.slice (some ⟨b,0,none⟩) n c)) pw (alF pf pw) wr.heap.size (hh.cells slq)):=(HSA.out.nul ((Kp.refl _ _).drew)).kp hR.kp (HNot.out.1) (HNot.out.2.1) (HNot.out.2.2)
      have O5:Hid (sl'.oneCell'=true):=hR.own.one
      refine hK.out _ _ HSB.out (fun hHeld=>?_)
      clear hK K hR kA HCall HSA
      have TH:Hid (w1.there b (q*15) 15):=by
       obtain⟨cs,r1,r2⟩:=HAt.out.row
       have hbn:b∉f1:=HBf.out
       exact there_of_block ((HR1.out.2.2.block b (Array.getElem?_eq_some_iff.1 r1).1 hbn).trans r1) _ _ (by have:=HC.out;omega)
      refine wpH_takes (i:=6) (v:=?_) (some 29) rfl rfl (by kernel_rfl) (fun _ _ _ h=>h) (Or.inl ⟨by rfl,?_⟩) hHeld ?_
      rotate_left
      ·intro w' hSw;clear hSw;go_simp;try with_reducible rfl
      (try simp only[Act.put,Sz0,Sz1,Sz2])
      refine wpH_step (i:=7) (by kernel_rfl) rfl rfl (fun K hK=>?_)
      have HST:Hid (AlAt f w (w1.setCells b (q*15) ((alN f ts[q]).hd.cells sl')) b c (q+1) ts fps (fa++f1') f2):=HAt.out.step hqt (by rw[HL.out];exact HCL.out) HNb.out HFb.out HRs.out HR1.out.2.2 HR1.out.1 HR1.out.2.1
      have HKX:Hid (Kp wr (w1.setCells b (q*15) ((alN f ts[q]).hd.cells sl')) (fun i=>i∈b::fps)):=(HR1.out.2.2.mono (fun i _ q=>List.mem_cons_of_mem _ (HF1.out i q))).trans (setCells_kp _ (by show b∈b::fps;exact List.mem_cons_self) _ _ _)
      have HSX:Hid (AlS (w1.setCells b (q*15) ((alN f ts[q]).hd.cells sl')) w.heap.size (Hd.cells ⟨k,o',x,s,bb,ff,c1,r1,p1,q1,c2,r2,p2,q2⟩ (.slice (some ⟨b,0,none⟩) n c)) pw (alF pf pw) wr.heap.size (hh.cells slq)):=HSB.out.kp (setCells_kp (fun i=>i=b) rfl _ _ _) (fun e=>HNb2.out.1 e.symm) (fun e=>HNb2.out.2.1 e.symm) (fun e=>HNb2.out.2.2 e.symm)
      generalize (alN f ts[q]).hd=hu at *
      refine wp_store_mid 48 (.tmp 29) (.tmp 28) rfl b (q*15) (hu.cells sl').toArray rfl rfl TH.out infoNode (hu.one O5.out) ?_
      obtain⟨X,hX⟩:∃X,w1.setCells b (q*15) (hu.cells sl')=X:=⟨_,rfl⟩
      show K _ (w1.setCells b (q*15) (hu.cells sl'))
      rw[hX] at HST HKX HSX ⊢
      refine hK.out _ _ HSX.out (fun _=>?_)
      clear hK K hX HSB TH HR1 HSX hHeld
      refine wpAnyH_done (by kernel_rfl) ?_ _
      refine NoPanic.normal ?_
      go_wp2_with fail
      go_roundw
      case rel=>exact⟨q+1,fa++f1',f2,by omega,by go_num,HST.out,HKW.out.trans HKX.out⟩
      case measure=>simp only[RowKit.intOf];omega
     ·have hqe:q=n:=by omega
      subst hqe
      have hqn:¬((q:Int)<(q:Int)):=by omega
      have HFin:Hid (∀w',Kp wr w' (fun i=>i=w.heap.size+1)->AlR f (.mk ⟨k,o',x,s,bb,ff,c1,r1,p1,q1,c2,r2,p2,q2⟩ ts) (b::fps) w w' (.slice (some ⟨b,0,none⟩) q c) (b::fa)):=fun w' kw=>by
       have hA:=HAt.out
       rw[<- HL.out] at hA
       obtain⟨f1,f2⟩:=hA.fin HTs.out (by rw[HL.out];exact HCL.out) HCm.out ⟨k,o',x,s,bb,ff,c1,r1,p1,q1,c2,r2,p2,q2⟩
       rw[HL.out] at f1
       refine⟨?_,f2,?_⟩
       ·rw[alN,if_neg (by intro e;rcases e with e|e;exact HK5.out e;exact HK6.out e)]
        exact f1.mono (fun i hi=>kw.block i (node_lt (f1.node i hi)) (fun e=>by have:i=w.heap.size+1:=e;have:=HLt.out i (f2.subset hi);omega))
       ·exact(HAt.out.kp.of_size kw (fun i hi e=>by have:i=w.heap.size+1:=e;omega))
      clear HAt IH HCL HCm HNb HTs HSz HNode HE0 HL HLen HEr hlt hq
      go_wp2_with (first
       | (refine wpList_load_mid rfl 48 (.tmp 3) rfl w.heap.size 0 rfl (Hd.cells ⟨k,o',x,s,bb,ff,c1,r1,p1,q1,c2,r2,p2,q2⟩ (.slice (some ⟨b,0,none⟩) q c)) _ (blk_range HN1.out) Tryz.underlying48 rfl infoNode ?_)
       | (refine wpList_store_blk rfl 48 (.tmp 4) (.tmp 31) rfl (w.heap.size+1) _ (Hd.cells ⟨k,o',x,s,bb,ff,c1,r1,p1,q1,c2,r2,p2,q2⟩ (.slice (some ⟨b,0,none⟩) q c)) _ HN2.out rfl rfl rfl infoNode (Hd.one ⟨k,o',x,s,bb,ff,c1,r1,p1,q1,c2,r2,p2,q2⟩ rfl) ?_;intro w2 hb2 hk2)
       | fail)
      refine bodyPost_ret (results_cell_row rfl _ _ (w.heap.size+1) 48 _ (0,0) _ rfl hb2 Tryz.underlying48 rfl infoNode) rfl ?_
      first
      | exact⟨_,_,rfl,HFin.out w2 hk2⟩
      | exact⟨_,rfl,_,HFin.out w2 hk2⟩
theorem along_at (xc xr:Nat) (cols:Bool) (at' n:Int) (hl:lnOk cols at' n) (t:Nd) (sl:Value) (fp:List Nat) (w:World) (hown:NdOwn w sl t fp) (hnd:fp.Nodup) (hk:KeptIn w xc xr cols at' n) :
  Calls Tryz.prog 106 #[.agg #[fateF xc xr],t.hd.val sl] w fun e w'=>∃sl' fp',e=.returned ((alN (lnF cols at' n) t).hd.val sl')/\AlR (lnF cols at' n) t fp w w' sl' fp':=by
 have O1:Hid (sl.oneCell'=true):=hown.one
 have HLt:Hid (∀i∈fp,i<w.heap.size):=fun i hi=>node_lt (hown.node i hi)
 have HCall:Hid (∀wq,Kp w wq Nul->Blk wq w.heap.size [fateF xc xr] 115->Blk wq (w.heap.size+1+1+1) [alF w.heap.size (w.heap.size+1+1+1)] 119 -> Calls Tryz.prog 141 #[t.hd.val sl,.pointer (some ⟨w.heap.size,0,none⟩),.pointer (some ⟨w.heap.size+1+1+1,0,none⟩)] wq fun e w'=>∃sl' fp',e=.returned ((alN (lnF cols at' n) t).hd.val sl')/\AlR (lnF cols at' n) t fp wq w' sl' fp'):=fun wq k h1 h2=>
  along1_any _ _ xc xr cols at' n hl t.size t sl fp wq (Nat.le_refl _) (hown.mono (fun i hi=>k.block i (node_lt (hown.node i hi)) (fun x=>x))) hnd ⟨h1,h2,hk.kp k⟩
 have HR:Hid (∀wq w1 w2 sl' fp',Kp w wq Nul->AlR (lnF cols at' n) t fp wq w1 sl' fp'->Kp w1 w2 (fun i=>i=w.heap.size+1+1)->AlR (lnF cols at' n) t fp w w2 sl' fp'):=fun wq w1 w2 sl' fp' k h k2=>
  ⟨h.own.mono (fun i hi=>k2.block i (node_lt (h.own.node i hi)) (fun e=>by have e':i=w.heap.size+1+1:=e;have:=HLt.out i (h.sub.subset hi);omega)),h.sub,((k.mono (fun _ _ q=>q.elim)).trans h.kp).of_size k2 (fun i hi e=>by have e':i=w.heap.size+1+1:=e;omega)⟩
 generalize lnF cols at' n=f at *
 generalize (alN f t).hd=hu at *
 generalize t.hd=hh at *
 clear hown hnd hk hl
 obtain⟨k,o',x,s,bb,ff,c1,r1,p1,q1,c2,r2,p2,q2⟩:=hh
 go_enter Tryz.func106,Tryz.ntmps106
 go_wp2_with fail
 obtain⟨W0,hW0⟩:∃W0,(((w.alloc (.cells #[fateF xc xr] 115)).alloc (.cells #[.int .i64 k,.int .i64 o',.float .f64 x,.string s,.bool bb,.int .i64 ff,.int .i64 c1,.int .i64 r1,.bool p1,.bool q1,.int .i64 c2,.int .i64 r2,.bool p2,.bool q2,sl] 48)).alloc (.cells #[.int .i64 0,.int .i64 0,.float .f64 0,.string ⟨#[]⟩,.bool false,.int .i64 0,.int .i64 0,.int .i64 0,.bool false,.bool false,.int .i64 0,.int .i64 0,.bool false,.bool false,.slice none 0 0] 48)).alloc (.cells #[alF w.heap.size (w.heap.size+1+1+1)] 119)=W0:=⟨_,rfl⟩
 rw[hW0]
 have k0:Kp w W0 Nul:=by rw[<- hW0];exact((((Kp.refl w Nul).alloc _).alloc _).alloc _).alloc _
 have b0:Blk W0 w.heap.size [fateF xc xr] 115:=by rw[<- hW0];exact(((Blk.new w _ _).alloc _).alloc _).alloc _
 have b2:Blk W0 (w.heap.size+1+1) [.int .i64 0,.int .i64 0,.float .f64 0,.string ⟨#[]⟩,.bool false,.int .i64 0,.int .i64 0,.int .i64 0,.bool false,.bool false,.int .i64 0,.int .i64 0,.bool false,.bool false,.slice none 0 0] 48:=by
  rw[<- hW0]
  have:=Blk.new ((w.alloc (.cells #[fateF xc xr] 115)).alloc (.cells #[.int .i64 k,.int .i64 o',.float .f64 x,.string s,.bool bb,.int .i64 ff,.int .i64 c1,.int .i64 r1,.bool p1,.bool q1,.int .i64 c2,.int .i64 r2,.bool p2,.bool q2,sl] 48)) [.int .i64 0,.int .i64 0,.float .f64 0,.string ⟨#[]⟩,.bool false,.int .i64 0,.int .i64 0,.int .i64 0,.bool false,.bool false,.int .i64 0,.int .i64 0,.bool false,.bool false,.slice none 0 0] 48
  rw[World.size_alloc,World.size_alloc] at this
  exact this.alloc _
 have b3:Blk W0 (w.heap.size+1+1+1) [alF w.heap.size (w.heap.size+1+1+1)] 119 := by
  rw[<- hW0]
  have:=Blk.new (((w.alloc (.cells #[fateF xc xr] 115)).alloc (.cells #[.int .i64 k,.int .i64 o',.float .f64 x,.string s,.bool bb,.int .i64 ff,.int .i64 c1,.int .i64 r1,.bool p1,.bool q1,.int .i64 c2,.int .i64 r2,.bool p2,.bool q2,sl] 48)).alloc (.cells #[.int .i64 0,.int .i64 0,.float .f64 0,.string ⟨#[]⟩,.bool false,.int .i64 0,.int .i64 0,.int .i64 0,.bool false,.bool false,.int .i64 0,.int .i64 0,.bool false,.bool false,.slice none 0 0] 48)) [alF w.heap.size (w.heap.size+1+1+1)] 119
  rw[World.size_alloc,World.size_alloc,World.size_alloc] at this
  exact this
 clear hW0
 refine(HCall.out W0 k0 b0 b3).mono ?_
 rintro e w1 ⟨sl',fp',rfl,hR⟩
 have HB2:Hid (Blk w1 (w.heap.size+1+1) [.int .i64 0,.int .i64 0,.float .f64 0,.string ⟨#[]⟩,.bool false,.int .i64 0,.int .i64 0,.int .i64 0,.bool false,.bool false,.int .i64 0,.int .i64 0,.bool false,.bool false,.slice none 0 0] 48):=b2.kp hR.kp (fun e=>by have:=HLt.out _ e;omega)
 have HR1:Hid (∀w2,Kp w1 w2 (fun i=>i=w.heap.size+1+1)->AlR f t fp w w2 sl' fp'):=fun w2 k2=>HR.out W0 w1 w2 sl' fp' k0 hR k2
 have O5:Hid (sl'.oneCell'=true):=hR.own.one
 clear hR k0 b0 b2 b3 HCall HR
 go_wp2_with (first|(refine wpList_store_blk rfl 48 (.tmp 4) (.tmp 9) rfl (w.heap.size+1+1) _ (hu.cells sl') _ HB2.out rfl rfl rfl infoNode (hu.one O5.out) ?_;intro w2 hb2 hk2)|fail)
 refine bodyPost_ret (results_cell_row rfl _ _ (w.heap.size+1+1) 48 _ (0,0) _ rfl hb2 Tryz.underlying48 rfl infoNode) rfl ?_
 first
 | exact⟨_,_,rfl,HR1.out w2 hk2⟩
 | exact⟨_,rfl,_,HR1.out w2 hk2⟩
end Go.Proofs.YtecjfnkakodebaaGreatDoor
