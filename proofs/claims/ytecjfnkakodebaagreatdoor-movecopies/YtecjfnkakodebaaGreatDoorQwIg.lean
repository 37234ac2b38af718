/-unlike: the cells in which two grids have not the same. -/
import Derived.Test.YtecjfnkakodebaaGreatDoorQwId
import Derived.Test.YtecjfnkakodebaaGreatDoorQwIf
import Derived.Test.YtecjfnkakodebaaGreatDoorQwIh
import Derived.Great.BuildSlice
set_option maxRecDepth 20000
set_option maxHeartbeats 16000000
namespace Go.Proofs.YtecjfnkakodebaaGreatDoor
open Go.RowKit Go.Maps Go.Sort Go.Lib
theorem GRg.lt {w:World} {A:Nat} {mv:Option Nat} {r:Nat} {rem:List Cc} (h:GRg w A mv r rem):r<w.heap.size:=by
 obtain⟨_,_,⟨_,_,q⟩|⟨m,D,left,cnt,_,_,q,_⟩⟩:=h
 ·exact(Array.getElem?_eq_some_iff.1 q).1
 ·exact q.lt
theorem GRg.no_cells {w:World} {A:Nat} {mv:Option Nat} {r:Nat} {rem:List Cc} (h:GRg w A mv r rem):∀cs t f,w.heap[r]? ≠ some (.cells cs t f):=fun cs t f q=>by
 obtain⟨_,_,⟨_,_,e⟩|⟨m,D,left,cnt,_,_,e,_⟩⟩:=h
 ·rw[e] at q;cases q
 ·obtain⟨es,clock,since,seen,c0,h1,h2,h3,h4,h5,h6⟩:=e
  rw[h5] at q;cases q
def UnP (L:List Cc) (x:Int×Int) (b:Ct):Prop:=¬ ∃a,(x,a)∈L/\csame a b=true
def Un (L M:List Cc) (x:Int×Int):Prop:=(∃b,(x,b)∈M/\UnP L x b)∨((∃a,(x,a)∈L)/\∀b,(x,b)∉M)
structure UnR (w:World) (A:Nat) (mv:Option Nat) (r n:Nat) (P:Cc->Prop) (base:(Int×Int)->Prop) (all:List Cc) (v:Value) (wr:World) (rem:List Cc) (acc:List (Int×Int)):Prop where
 rg:GRg wr A mv r rem
 row:wr.ownsRow A 32 2 v acc.length (flatK encA 2 acc.toArray).toList
 len:acc.length+rem.length<=n
 nodup:acc.Nodup
 mem:∀x,x∈acc↔base x∨∃b,(x,b)∈all/\(x,b)∉rem/\P (x,b)
 sub:∀x,x∈rem->x∈all
 kp:Kp w wr Nul
theorem filt_len {rem:List Cc} {c s:Int} {ct:Ct} (ho:rem.Pairwise (fun x y=>x.1≠y.1)) (h:((c,s),ct)∈rem):(rem.filter (fun x=>decide (x.1≠(c,s)))).length+1=rem.length:=filt_one ho h
theorem UnR.skip {w:World} {A:Nat} {mv:Option Nat} {r n:Nat} {P:Cc->Prop} {base:(Int×Int)->Prop} {all:List Cc} {v:Value} {wr w2:World} {rem:List Cc} {acc:List (Int×Int)} (h:UnR w A mv r n P base all v wr rem acc) {c s:Int} {ct:Ct} (hm:((c,s),ct)∈rem)
  (hp:¬P ((c,s),ct)) (hone:all.Pairwise (fun x y=>x.1≠y.1)) (hrg:GRg w2 A mv r (rem.filter (fun x=>decide (x.1≠(c,s))))) (hrow:w2.ownsRow A 32 2 v acc.length (flatK encA 2 acc.toArray).toList) (hk:Kp w w2 Nul) :
  UnR w A mv r n P base all v w2 (rem.filter (fun x=>decide (x.1≠(c,s)))) acc:=by
 refine⟨hrg,hrow,by have:=h.len;have:=filt_len h.rg.1 hm;omega,h.nodup,fun x=>?_,fun x hx=>h.sub x (List.mem_filter.1 hx).1,hk⟩
 rw[h.mem]
 constructor
 ·rintro(q|⟨b,q1,q2,q3⟩)
  ·exact .inl q
  ·exact .inr ⟨b,q1,fun q=>q2 (List.mem_filter.1 q).1,q3⟩
 ·rintro(q|⟨b,q1,q2,q3⟩)
  ·exact .inl q
  ·refine .inr ⟨b,q1,fun q=>?_,q3⟩
   by_cases e:x=(c,s)
   ·subst e
    rw[once_eq hone q1 (h.sub _ hm)] at q3
    exact hp q3
   ·exact q2 (List.mem_filter.2 ⟨q,decide_eq_true e⟩)
theorem UnR.take {w:World} {A:Nat} {mv:Option Nat} {r n:Nat} {P:Cc->Prop} {base:(Int×Int)->Prop} {all:List Cc} {v v2:Value} {wr w2:World} {rem:List Cc} {acc:List (Int×Int)} (h:UnR w A mv r n P base all v wr rem acc) {c s:Int} {ct:Ct} (hm:((c,s),ct)∈rem)
  (hp:P ((c,s),ct)) (hone:all.Pairwise (fun x y=>x.1≠y.1)) (hb:¬base (c,s)) (hrg:GRg w2 A mv r (rem.filter (fun x=>decide (x.1≠(c,s))))) (hrow:w2.ownsRow A 32 2 v2 (acc.length+1) ((flatK encA 2 acc.toArray).toList++encA (c,s))) (hk:Kp w w2 Nul) :
  UnR w A mv r n P base all v2 w2 (rem.filter (fun x=>decide (x.1≠(c,s)))) (acc++[(c,s)]):=by
 have hx:(c,s)∉acc:=fun q=>by
  rcases(h.mem _).1 q with q|⟨b,q1,q2,_⟩
  ·exact hb q
  ·rw[once_eq hone q1 (h.sub _ hm)] at q2
   exact q2 hm
 refine⟨hrg,by rw[flat_snoc,List.length_append];exact hrow,by have:=h.len;have:=filt_len h.rg.1 hm;simp only[List.length_append,List.length_singleton];omega,nodup_snoc h.nodup hx,fun x=>?_,fun x hx=>h.sub x (List.mem_filter.1 hx).1,hk⟩
 rw[List.mem_append,List.mem_singleton,h.mem]
 constructor
 ·rintro((q|⟨b,q1,q2,q3⟩)|rfl)
  ·exact .inl q
  ·exact .inr ⟨b,q1,fun q=>q2 (List.mem_filter.1 q).1,q3⟩
  ·exact .inr ⟨ct,h.sub _ hm,fun q=>by have:=of_decide_eq_true (List.mem_filter.1 q).2;exact this rfl,hp⟩
 ·rintro(q|⟨b,q1,q2,q3⟩)
  ·exact .inl (.inl q)
  ·by_cases e:x=(c,s)
   ·exact .inr e
   ·exact .inl (.inr ⟨b,q1,fun q=>q2 (List.mem_filter.2 ⟨q,decide_eq_true e⟩),q3⟩)
theorem row_ne {w:World} {A:Nat} {mv:Option Nat} {r:Nat} {rem:List Cc} {e:TypeId} {k n:Nat} {v:Value} {xs:List Value} (h:GRg w A mv r rem) (q:w.ownsRow A e k v n xs):v.ownBlock≠some r:=fun eq=>by
 obtain⟨_,⟨rfl,_⟩|⟨g,c,cur,rfl,_,h3,_⟩⟩:=q
 ·cases eq
 ·have:g=r:=by simpa [Value.ownBlock] using eq
  subst this
  exact h.no_cells _ _ _ h3
theorem look_ct {w:World} {g:Nat} {L:List Cc} (h:GI 0 w g L) (gL:∀x∈L,Gd x.2) {c s:Int} (hc:I64 c) (hs:I64 s) {mv:Option Nat} (hb:Blk w g [.map mv] 96) :
  ∃a sa b,Lk w g c s mv (a.val sa) b/\NdIn w (fun b=>0<=b) sa a.t/\a.v.x<18446744073709551616/\a.t.ok/\a.t.size<=1048576/\cpC a=a/\((b=true/\((c,s),a)∈L)∨(b=false/\a=ct0/\sa=.slice none 0 0/\∀a',((c,s),a')∉L)):=by
 obtain⟨mv',v,b,q1,q2⟩:=lk_of h hc hs
 have e:mv'=mv:=by
  have q:=q1.cell.symm.trans hb
  simpa using q
 subst e
 rcases q2 with ⟨rfl,ct,sl,h1,rfl,h3⟩|⟨rfl,rfl,h2⟩
 ·have hgd:=gL _ h1
  exact⟨ct,sl,true,q1,h3,hgd.x,hgd.ok,hgd.size,hgd.cp,.inl ⟨rfl,h1⟩⟩
 ·refine⟨ct0,.slice none 0 0,false,q1,zNd_in w _,by decide,zNd_ok,by show zNd.size<=_;rw[zsize];decide,?_,.inr ⟨rfl,rfl,rfl,h2⟩⟩
  unfold cpC ct0
  simp only[cpy_zNd]
  rfl
theorem nodup_le {α:Type} [DecidableEq α]:∀(l m:List α),l.Nodup->(∀x∈l,x∈m)->l.length<=m.length
 | [],m,_,_=>Nat.zero_le _
 | x::l,m,hn,hs=>by
  rw[List.nodup_cons] at hn
  have hx:x∈m:=hs x List.mem_cons_self
  have h:=nodup_le l (m.erase x) hn.2 (fun y hy=>(List.mem_erase_of_ne (by rintro rfl;exact hn.1 hy)).2 (hs y (List.mem_cons_of_mem _ hy)))
  rw[List.length_erase_of_mem hx] at h
  have:0<m.length:=List.length_pos_of_mem hx
  rw[List.length_cons];omega
theorem strict_nodup {U:List (Int×Int)} (h:Strict U):U.Nodup:=h.imp (fun {x y} h e=>by subst e;rw[swoA.irrefl] at h;cases h)
theorem wpList_store_var {ops:Array Oper} {rest:List Oper} {o:Oper} {a:Act} {w:World} {Q:Exit->Act->World->Prop} (hgd:o.guard=none) (ty:TypeId) (x y:Operand) (ho:o.op=.store ty x y)
  (b:Nat) (hx:a.eval x=.pointer (some ⟨b,0,none⟩)) (v:Value) (hy:a.eval y=v) (h1:v.oneCell'=true) (t:TypeId) (old:Value) (hb:Blk w b [old] t) (hi:(Tryz.prog.info? ty).map (·.size)=some 1)
  (h:∀W,Blk W b [v] t->Kp w W (fun i=>i=b)->wpList Tryz.prog ops Q rest (a.put o.dst undef) W):wpList Tryz.prog ops Q (o::rest) a w:=by
 subst hy
 refine wpList_store_one hgd ty x y ho b hx h1 t old hb hi (h _ (setRow_heap w b #[old] #[a.eval y] t (0,0) hb) ?_)
 refine⟨rfl,rfl,rfl,?_,fun i _ hn=>?_⟩
 ·unfold World.setRow;simp
 ·unfold World.setRow
  simp only[Array.getElem?_modify]
  rw[if_neg (fun e=>hn e.symm)]
theorem row_down {w:World} {B B':Nat} {e:TypeId} {k n:Nat} {v:Value} {xs:List Value} (h:w.ownsRow B e k v n xs) (hb:B'<=B):w.ownsRow B' e k v n xs:=by
 obtain⟨h0,h⟩:=h
 refine⟨h0,?_⟩
 rcases h with h|⟨g',c',cur,h1,h2,h3⟩
 ·exact .inl h
 ·exact .inr ⟨g',c',cur,h1,Nat.le_trans hb h2,h3⟩
theorem row_one {w:World} {B:Nat} {e:TypeId} {k n:Nat} {v:Value} {xs:List Value} (h:w.ownsRow B e k v n xs):v.oneCell'=true:=by
 obtain⟨_,⟨rfl,_⟩|⟨g',c',cur,rfl,_⟩⟩:=h <;> rfl
theorem CellsFrom.down {B B':Nat} {w:World} {v:Value} {L:List (Int×Int)} (h:CellsFrom B w v L) (hb:B'<=B):CellsFrom B' w v L:=by
 obtain⟨a,c,h1,h2|⟨b,h2,h3,h4⟩⟩:=h
 ·exact⟨a,c,h1,.inl h2⟩
 ·exact⟨a,c,h1,.inr ⟨b,h2,Nat.le_trans hb h3,h4⟩⟩
structure Fi (w:World) (g:Nat) (mv:Option Nat) (r:Nat) (L:List Cc) (v:Value) (wr:World) (rem:List Cc) (acc:List (Int×Int)):Prop where
 un:UnR w w.heap.size mv r L.length (fun _=>True) (fun _=>False) L v wr rem acc
 row:wr.ownsRow (w.heap.size+1+1+1) 32 2 v acc.length (flatK encA 2 acc.toArray).toList
 b0:Blk wr w.heap.size [.pointer (some ⟨g,0,none⟩)] 24
 b1:Blk wr (w.heap.size+1) [.int .i64 1,.int .i64 1,.int .i64 256,.int .i64 4096] 34
 b2:Blk wr (w.heap.size+1+1) [v] 78
theorem filled_at (g:Nat) (L:List Cc) (w:World) (hg:GI 0 w g L) (hv:∀x∈L,vC x.1.1 x.1.2=true) (lL:L.length<=4096) :
  Calls Tryz.prog 134 #[.pointer (some ⟨g,0,none⟩),.agg #[.int .i64 1,.int .i64 1,.int .i64 256,.int .i64 4096]] w fun e w'=>∃U v',e=.returned v'/\CellsFrom w.heap.size w' v' U/\Strict U/\(∀x,x∈U↔∃a,(x,a)∈L)/\Kp w w' Nul:=by
 obtain⟨mv,bg,hlen⟩:=gi_len hg
 obtain⟨i0,hi,hz0,hz1,hz2⟩:=infoAddr
 obtain⟨W3,hW3⟩:∃W3,((w.alloc (.cells #[.pointer (some ⟨g,0,none⟩)] 24)).alloc (.cells #[.int .i64 1,.int .i64 1,.int .i64 256,.int .i64 4096] 34)).alloc (.cells #[.slice none 0 0] 78)=W3:=⟨_,rfl⟩
 have k3:Kp w W3 Nul:=by rw[<- hW3];exact(((Kp.refl w Nul).alloc _).alloc _).alloc _
 have s3:W3.heap.size=w.heap.size+1+1+1:=by rw[<- hW3,World.size_alloc,World.size_alloc,World.size_alloc]
 have B0:Blk W3 w.heap.size [.pointer (some ⟨g,0,none⟩)] 24:=by rw[<- hW3];exact((Blk.new w [.pointer (some ⟨g,0,none⟩)] _).alloc _).alloc _
 have B1:Blk W3 (w.heap.size+1) [.int .i64 1,.int .i64 1,.int .i64 256,.int .i64 4096] 34:=by
  have:=Blk.new (w.alloc (.cells #[.pointer (some ⟨g,0,none⟩)] 24)) [.int .i64 1,.int .i64 1,.int .i64 256,.int .i64 4096] 34
  rw[World.size_alloc] at this
  rw[<- hW3];exact this.alloc _
 have B2:Blk W3 (w.heap.size+1+1) [.slice none 0 0] 78:=by
  have:=Blk.new ((w.alloc (.cells #[.pointer (some ⟨g,0,none⟩)] 24)).alloc (.cells #[.int .i64 1,.int .i64 1,.int .i64 256,.int .i64 4096] 34)) [.slice none 0 0] 78
  rw[World.size_alloc,World.size_alloc] at this
  rw[<- hW3];exact this
 have HS:Hid (∀wq,Kp W3 wq Nul->wq.cell? ⟨w.heap.size,0,none⟩=some (.pointer (some ⟨g,0,none⟩))/\wq.cell? ⟨w.heap.size+1,0,none⟩=some (.int .i64 1)/\wq.cell? ⟨w.heap.size+1,1,none⟩=some (.int .i64 1)/\wq.cell? ⟨w.heap.size+1,2,none⟩=some (.int .i64 256)/\wq.cell? ⟨w.heap.size+1,3,none⟩=some (.int .i64 4096)/\wq.cell? ⟨g,0,none⟩=some (.map mv)/\∀ty,(Builtin.len_ #[94] ty #[.map mv]).run Tryz.prog wq=.ok (.int .i64 L.length) wq):=fun wq k=>
  ⟨(B0.kp k (fun x=>x)).cell rfl,(B1.kp k (fun x=>x)).cell rfl,(B1.kp k (fun x=>x)).cell rfl,(B1.kp k (fun x=>x)).cell rfl,(B1.kp k (fun x=>x)).cell rfl,(bg.kp (k3.trans k) (fun x=>x)).cell rfl,hlen wq (k3.trans k)⟩
 have HSize:Hid (∀wq,Kp W3 wq Nul->Calls Tryz.prog 152 #[.agg #[.int .i64 1,.int .i64 1,.int .i64 256,.int .i64 4096]] wq fun e w'=>e=.returned (.int .i64 1048576)/\Kp W3 w' Nul):=fun wq k=>(pSize_any 1 1 256 4096 wq).mono fun e w' ⟨q1,q2⟩=>⟨q1,k.trans (Kp.of_gr q2)⟩
 have HIn:Hid (∀c s wq,vC c s=true->Calls Tryz.prog 20 #[.agg #[.int .i64 1,.int .i64 1,.int .i64 256,.int .i64 4096],.agg #[.int .i64 c,.int .i64 s]] wq fun e w'=>e=.returned (.bool true)/\Kp wq w' Nul):=fun c s wq hc=>(pIn_any 1 1 256 4096 c s wq).mono fun e w' ⟨q1,q2⟩=>by
  refine⟨?_,Kp.of_gr q2⟩
  rw[q1]
  have:=(vC_iff c s).1 hc
  simp[inA,vA,vC,this]
 have HG:Hid (GI 0 w g L):=hg
 have HBg:Hid (Blk w g [.map mv] 96):=bg
 have HLL:Hid (L.length<=4096):=lL
 have HV:Hid (∀x∈L,vC x.1.1 x.1.2=true):=hv
 have HW3:Hid (((w.alloc (.cells #[.pointer (some ⟨g,0,none⟩)] 24)).alloc (.cells #[.int .i64 1,.int .i64 1,.int .i64 256,.int .i64 4096] 34)).alloc (.cells #[.slice none 0 0] 78)=W3):=hW3
 have HK3:Hid (Kp w W3 Nul):=k3
 have HS3:Hid (W3.heap.size=w.heap.size+1+1+1):=s3
 have HB0:Hid (Blk W3 w.heap.size [.pointer (some ⟨g,0,none⟩)] 24):=B0
 have HB1:Hid (Blk W3 (w.heap.size+1) [.int .i64 1,.int .i64 1,.int .i64 256,.int .i64 4096] 34):=B1
 have HB2:Hid (Blk W3 (w.heap.size+1+1) [.slice none 0 0] 78):=B2
 have hnl:¬((1048576:Int)<(L.length:Int)):=by omega
 clear hg bg hlen lL hv hW3 k3 s3 B0 B1 B2
 go_enter Tryz.func134,Tryz.ntmps134
 go_wp2_with fail
 rw[HW3.out]
 clear HW3
 refine wp_region_noPanic ?_
 refine wp_region_nul (W:=W3) (Kp.refl _ _) (by kernel_rfl) (by kernel_rfl) ?_
 refine quiet_run (some 8) rfl ?_ (by rfl) ?_ ?_
 rotate_left
 ·intro w' hk;obtain⟨s0,s1,s2,s3,s4,s5,s6⟩:=HS.out _ hk;clear hk;go_simp;try with_reducible rfl
 simp only[Act.put,Sz0,Sz1,Sz2]
 refine quiet_call (some 9) rfl 152 #[.agg #[.int .i64 1,.int .i64 1,.int .i64 256,.int .i64 4096]] (.int .i64 1048576) (by rfl) (fun w'=>by go_simp) (fun w' hk=>HSize.out w' hk) ?_
 simp only[Act.put,Sz0,Sz1,Sz2]
 refine quiet_run (some 10) rfl ?_ (by rfl) ?_ ?_
 rotate_left
 ·intro w' hk;obtain⟨s0,s1,s2,s3,s4,s5,s6⟩:=HS.out _ hk;clear hk;go_simp;try with_reducible rfl
 simp only[Act.put,Sz0,Sz1,Sz2]
 refine quiet_run (some 11) rfl ?_ (by rfl) ?_ ?_
 rotate_left
 ·intro w' hk;obtain⟨s0,s1,s2,s3,s4,s5,s6⟩:=HS.out _ hk;clear hk;go_simp;try with_reducible rfl
 simp only[Act.put,Sz0,Sz1,Sz2]
 refine quiet_run (some 12) rfl ?_ (by rfl) ?_ ?_
 rotate_left
 ·intro w' hk;obtain⟨s0,s1,s2,s3,s4,s5,s6⟩:=HS.out _ hk;clear hk;go_simp;try with_reducible rfl
 simp only[Act.put,Sz0,Sz1,Sz2]
 refine quiet_run (some 13) rfl ?_ (by rfl) ?_ ?_
 rotate_left
 ·intro w' hk;obtain⟨s0,s1,s2,s3,s4,s5,s6⟩:=HS.out _ hk;clear hk;go_simp;try with_reducible rfl
 simp only[Act.put,Sz0,Sz1,Sz2]
 refine quiet_run (some 14) rfl ?_ (by rfl) ?_ ?_
 rotate_left
 ·intro w' hk;obtain⟨s0,s1,s2,s3,s4,s5,s6⟩:=HS.out _ hk;clear hk;go_simp;try with_reducible rfl
 simp only[Act.put,Sz0,Sz1,Sz2]
 refine quiet_run (some 15) rfl (.bool false) (by rfl) ?_ ?_
 ·intro w' hk;clear hk;go_simp;try simp[hnl]
 simp only[Act.put,Sz0,Sz1,Sz2]
 refine wpQuiet_nil ?_
 intro w2 hk2
 refine NoPanic.normal ?_
 obtain⟨c0,_,_,_,_,c5,_⟩:=HS.out w2 hk2
 have HLow:Hid (GridIn w2 (fun b=>b<w.heap.size) g L):=HG.out.low.kp (HK3.out.trans hk2)
 have HBg2:Hid (Blk w2 g [.map mv] 96):=HBg.out.kp (HK3.out.trans hk2) (fun x=>x)
 have HKW:Hid (Kp W3 w2 Nul):=hk2
 clear hk2 hnl HS HSize
 go_wp2_with (first
  | (at_range;refine wpList_range_grid _ rfl _ rfl g L mv w.heap.size rfl HLow.out HBg2.out ?_;intro w0 hrg0 hg0 hs0)
  | fail)
 have HStart:Hid (Fi w g mv w2.heap.size L (.slice none 0 0) w0 L []):=by
  have k0:Kp w2 w0 Nul:=Kp.of_grown hg0 (fun i e=>by cases e)
  have k30:Kp W3 w0 Nul:=HKW.out.trans k0
  have r0:∀B,w0.ownsRow B 32 2 (.slice none 0 0) ([]:List (Int×Int)).length (flatK encA 2 ([]:List (Int×Int)).toArray).toList:=fun B=>⟨by simp[flatK],.inl ⟨rfl,rfl⟩⟩
  refine⟨⟨hrg0,r0 _,by simp,List.nodup_nil,fun x=>⟨fun h=>by simp at h,fun h=>?_⟩,fun x h=>h,HK3.out.trans k30⟩,r0 _,HB0.out.kp k30 (fun x=>x),HB1.out.kp k30 (fun x=>x),HB2.out.kp k30 (fun x=>x)⟩
  rcases h with h|⟨b,h1,h2,_⟩
  ·exact h.elim
  ·exact absurd h1 h2
 have HAr:Hid (w.heap.size+1+1+1<=w2.heap.size):=by show _<=_;have:=HKW.out.size;have:=HS3.out;omega
 clear hrg0 hg0 hs0 c0 c5 HLow HBg2 HKW HB0 HB1 HB2 HS3 HK3
 go_frame
 obtain⟨r2,hr2⟩:∃r2,w2.heap.size=r2:=⟨_,rfl⟩
 rw[hr2] at HStart HAr
 rw[hr2]
 clear hr2
 go_loopw[] (fun wr=>∃v rem acc,Fi w g mv r2 L v wr rem acc) (fun wr=>glen wr mv r2)
 case atStart=>exact⟨_,L,[],HStart.out⟩
 case round=>
  clear HStart
  obtain⟨v,rem,acc,hfi⟩:=hrel
  have HF:Hid (Fi w g mv r2 L v wr rem acc):=hfi
  have HRG:Hid (GRg wr w.heap.size mv r2 rem):=hfi.un.rg
  have hA2:w.heap.size<=r2:=by have:=HAr.out;omega
  clear hfi
  go_wp2_with (first
   | (at_next;refine wpList_next_grid _ rfl _ rfl w.heap.size mv r2 rem rfl HRG.out hA2 ?_ ?_)
   | fail)
  ·intro hr0
   have d2:wr.cell? ⟨w.heap.size+1+1,0,none⟩=some v:=HF.out.b2.cell rfl
   have HSort:Hid (Calls Tryz.prog 153 #[v,.func (.func 154) #[] #[]] wr fun e w'=>e=.returned (.tuple #[])/\CellsFrom w.heap.size w' v (acc.mergeSort fun x y=>!(ltOf cfA) y x)/\Kp w w' Nul/\w'.cell? ⟨w.heap.size+1+1,0,none⟩=some v):=by
    have hacc:acc.length<=1048576:=by have:=HF.out.un.len;have:=HLL.out;omega
    refine(sort_cells acc v (w.heap.size+1+1+1) wr hacc (own1_row rfl HF.out.row)).mono ?_
    rintro e w' ⟨rfl,h1,h2⟩
    exact⟨rfl,(own1_from h1).down (by omega),HF.out.un.kp.trans' h2 (fun i hi e=>absurd e (by omega)),(HF.out.b2.kp h2 (by omega)).cell rfl⟩
   have HM2:Hid (∀x,x∈(acc.mergeSort fun x y=>!(ltOf cfA) y x)↔∃a,(x,a)∈L):=fun x=>by
    rw[List.mem_mergeSort,HF.out.un.mem,hr0]
    simp
   have HST:Hid (Strict (acc.mergeSort fun x y=>!(ltOf cfA) y x)):=merge_strict HF.out.un.nodup
   clear hr0 HF HRG hA2
   go_wp2_with fail
   refine HSort.out.mono ?_
   rintro e w' ⟨rfl,hcf,hk,d3⟩
   go_wp2_with fail
   go_ret
   exact⟨_,_,rfl,hcf,HST.out,HM2.out,hk⟩
  ·intro c s ct sl w1 hmem hin hrg1 hlt1 hgr1 hsz1 hen
   have k1:Kp wr w1 (fun i=>i=r2):=Kp.of_grown hgr1 (fun i e=>by cases e;rfl)
   have HK1:Hid (Kp w w1 Nul):=HF.out.un.kp.trans' k1 (fun i hi e=>by have:i=r2:=e;omega)
   have hne:=row_ne HRG.out HF.out.un.row
   have HNE:Hid (v.ownBlock≠some r2):=hne
   have HRow1:Hid (w1.ownsRow (w.heap.size+1+1+1) 32 2 v acc.length (flatK encA 2 acc.toArray).toList):=HF.out.row.kept hgr1 (.inr hne)
   have hr3:=HAr.out
   have b0:=HF.out.b0.kp k1 (fun e=>by have:w.heap.size=r2:=e;omega)
   have b1:=HF.out.b1.kp k1 (fun e=>by have:w.heap.size+1=r2:=e;omega)
   have b2:=HF.out.b2.kp k1 (fun e=>by have:w.heap.size+1+1=r2:=e;omega)
   have HB0:Hid (Blk w1 w.heap.size [.pointer (some ⟨g,0,none⟩)] 24):=b0
   have HB1:Hid (Blk w1 (w.heap.size+1) [.int .i64 1,.int .i64 1,.int .i64 256,.int .i64 4096] 34):=b1
   have HB2:Hid (Blk w1 (w.heap.size+1+1) [v] 78):=b2
   have d0:(w1.alloc (.cells #[.int .i64 c,.int .i64 s] 32)).cell? ⟨w.heap.size+1,0,none⟩=some (.int .i64 1):=(b1.alloc _).cell rfl
   have d1:(w1.alloc (.cells #[.int .i64 c,.int .i64 s] 32)).cell? ⟨w.heap.size+1,1,none⟩=some (.int .i64 1):=(b1.alloc _).cell rfl
   have d2:(w1.alloc (.cells #[.int .i64 c,.int .i64 s] 32)).cell? ⟨w.heap.size+1,2,none⟩=some (.int .i64 256):=(b1.alloc _).cell rfl
   have d3:(w1.alloc (.cells #[.int .i64 c,.int .i64 s] 32)).cell? ⟨w.heap.size+1,3,none⟩=some (.int .i64 4096):=(b1.alloc _).cell rfl
   have HC:Hid (vC c s=true):=HV.out _ (HF.out.un.sub _ hmem)
   have HG1:Hid (GRg w1 w.heap.size mv r2 (rem.filter (fun x=>decide (x.1≠(c,s))))):=by show GRg _ _ _ _ _;simpa using hrg1
   have HLT:Hid (glen w1 mv r2<glen wr mv r2):=hlt1
   have HMEM:Hid (((c,s),ct)∈rem):=hmem
   have HA3:Hid (∀wq,Kp (w1.alloc (.cells #[.int .i64 c,.int .i64 s] 32)) wq Nul->wq.cell? ⟨w1.heap.size,0,none⟩=some (.int .i64 c)/\wq.cell? ⟨w1.heap.size,1,none⟩=some (.int .i64 s)/\wq.cell? ⟨w.heap.size+1+1,0,none⟩=some v):=fun wq k=>⟨((Blk.new w1 [.int .i64 c,.int .i64 s] 32).kp k (fun x=>x)).cell rfl,((Blk.new w1 [.int .i64 c,.int .i64 s] 32).kp k (fun x=>x)).cell rfl,(HB2.out.kp (((Kp.refl w1 Nul).alloc _).trans k) (fun x=>x)).cell rfl⟩
   clear hne k1 hrg1 hlt1 hgr1 hsz1 hmem hin b0 b1 b2 hr3 hA2
   go_wp2_with fail
   refine(HIn.out c s _ HC.out).mono ?_
   rintro e w3 ⟨rfl,hk3⟩
   obtain⟨q0,q1,q2⟩:=HA3.out w3 hk3
   have hk13:Kp w1 w3 Nul:=((Kp.refl w1 Nul).alloc _).trans hk3
   have HK3:Hid (Kp w w3 Nul):=HK1.out.trans hk13
   have HK13:Hid (Kp w1 w3 Nul):=hk13
   have HRow3:Hid (w3.ownsRow (w.heap.size+1+1+1) 32 2 v acc.length (flatK encA 2 acc.toArray).toList):=row_kp HRow1.out hk13 (fun i _ e=>e)
   have HB4:Hid (Blk (w3.alloc (.cells #[.int .i64 c,.int .i64 s] 32)) w3.heap.size [.int .i64 c,.int .i64 s] 32):=Blk.new w3 [.int .i64 c,.int .i64 s] _
   have HRow4:Hid ((w3.alloc (.cells #[.int .i64 c,.int .i64 s] 32)).ownsRow (w.heap.size+1+1+1) 32 2 v acc.length (flatK encA 2 acc.toArray).toList):=HRow3.out.alloc _
   have HLEN:Hid (acc.length<=4096):=by show _<=_;have:=HF.out.un.len;have:=HLL.out;omega
   have HB30:=HB0.out.kp hk13 (fun x=>x)
   have HB3':Hid (Blk w3 w.heap.size [.pointer (some ⟨g,0,none⟩)] 24/\Blk w3 (w.heap.size+1) [.int .i64 1,.int .i64 1,.int .i64 256,.int .i64 4096] 34/\Blk w3 (w.heap.size+1+1) [v] 78):=⟨HB30,HB1.out.kp hk13 (fun x=>x),HB2.out.kp hk13 (fun x=>x)⟩
   clear hk3 hk13 HA3 HRow1 HB0 HB1 HB2 HB30 d0 d1 d2 d3
   go_wp2_with (at_builtin;refine wpList_append_own _ rfl _ _ 78 rfl (w.heap.size+1+1+1) 32 i0 _ 2 16 Tryz.underlying78 hi hz0 hz1 hz2 rfl (by decide) _ _ _ rfl HRow4.out ⟨w3.heap.size,0,none⟩ 1 1 (encA (c,s)) rfl ?qc1 ?qc2 ?qc3 ?qc4 ?qc5 ?qc6 ?_)
   case qc1=>rfl
   case qc2=>
    intro j u hj
    first
    | exact hj
    | (rw[Addr.add_lit,Nat.zero_add];exact HB4.out.at'.trans hj)
   case qc3=>exact encA_one _
   case qc4=>have:=HLEN.out;unfold maxLen;omega
   case qc5=>have:=HLEN.out;omega
   case qc6=>rw[World.size_alloc];have:=HB3'.out.2.2.lt;omega
   intro v5 w5 hrow5 hg5 hnil5
   have hob:=own_block HRow4.out
   have k45:=Kp.of_grown (S:=fun i=>v.ownBlock=some i) hg5 (fun i e=>e)
   have k35:Kp w3 w5 (fun i=>v.ownBlock=some i):=((Kp.refl w3 _).alloc _).trans k45
   have HB5:Hid (Blk w5 w.heap.size [.pointer (some ⟨g,0,none⟩)] 24/\Blk w5 (w.heap.size+1) [.int .i64 1,.int .i64 1,.int .i64 256,.int .i64 4096] 34/\Blk w5 (w.heap.size+1+1) [v] 78):=⟨HB3'.out.1.kp k35 (fun e=>by have:=hob _ e;omega),HB3'.out.2.1.kp k35 (fun e=>by have:=hob _ e;omega),HB3'.out.2.2.kp k35 (fun e=>by have:=hob _ e;omega)⟩
   have HK35:Hid (Kp w3 w5 (fun i=>v.ownBlock=some i)):=k35
   have HOB:Hid (∀i,v.ownBlock=some i->w.heap.size+1+1+1<=i):=hob
   have HRow5:Hid (w5.ownsRow (w.heap.size+1+1+1) 32 2 v5 (acc.length+1) ((flatK encA 2 acc.toArray).toList++encA (c,s))):=hrow5
   have O5:Hid (v5.oneCell'=true):=row_one hrow5
   clear hrow5 hg5 hnil5 k45 k35 hob HB4 HRow4 HB3'
   go_wp2_with (first
    | (refine wpList_store_var rfl 78 (.tmp 5) (.tmp 42) rfl (w.heap.size+1+1) rfl v5 rfl O5.out 78 v HB5.out.2.2 (by kernel_rfl) ?_;intro w6 hb6 hk6)
    | fail)
   have k36:Kp w3 w6 (fun i=>v.ownBlock=some i∨i=w.heap.size+1+1):=(HK35.out.mono (fun i _ e=>.inl e)).trans' hk6 (fun i _ e=>.inr e)
   have hr2:=HAr.out
   have hr1:=HG1.out.lt
   have hb3:=HK13.out.size
   have HK6:Hid (Kp w w6 Nul):=HK3.out.trans' k36 (fun i hi e=>by
    rcases e with e|e
    ·have:=HOB.out i e;omega
    ·omega)
   have k16:=HK13.out.of_nul.trans k36
   have b16:Below w.heap.size w1 w6:=⟨k16.os,k16.tape,k16.output,k16.size,fun i hi=>k16.block i (by have:=HK1.out.size;omega) (fun e=>by
    rcases e with e|e
    ·have:=HOB.out i e;omega
    ·omega)⟩
   have r16:w6.heap[r2]? = w1.heap[r2]?:=k16.block r2 hr1 (fun e=>by
    rcases e with e|e
    ·exact HNE.out e
    ·omega)
   have hrow6:w6.ownsRow (w.heap.size+1+1+1) 32 2 v5 (acc.length+1) ((flatK encA 2 acc.toArray).toList++encA (c,s)):=row_kp HRow5.out hk6 (fun i hi e=>by have:i=w.heap.size+1+1:=e;omega)
   have HF6:Hid (Fi w g mv r2 L v5 w6 (rem.filter (fun x=>decide (x.1≠(c,s)))) (acc++[(c,s)])):=by
    refine⟨HF.out.un.take HMEM.out trivial HG.out.once (fun h=>h) (HG1.out.keep b16 r16) (row_down hrow6 (by omega)) HK6.out,?_,HB5.out.1.kp hk6 (fun e=>by have:w.heap.size=w.heap.size+1+1:=e;omega),HB5.out.2.1.kp hk6 (fun e=>by have:w.heap.size+1=w.heap.size+1+1:=e;omega),hb6⟩
    rw[flat_snoc,List.length_append];exact hrow6
   have HME:Hid (glen w6 mv r2<glen wr mv r2):=by show _<_;rw[HG1.out.glen b16 r16];exact HLT.out
   clear k36 hr2 hr1 hb3 k16 b16 r16 hrow6 hb6 hk6
   go_wp2_with fail
   go_roundw
   case rel=>exact⟨_,_,_,_,_,_,_,_,_,_,_,_,⟨_,_,_,HF6.out⟩,rfl⟩
   case measure=>exact HME.out
theorem make_puts (n:Nat) (hn:n<=1048576):∃cs:Array Value,cs.size=n*23 /\
  ∀w:World,(Instr.makeSlice 22 (.int .i64 (n:Int)) (.int .i64 (n:Int))).run Tryz.prog w=.ok (.slice (some ⟨w.heap.size,0,none⟩) n n) (w.alloc (.cells cs 52)):=by
 obtain⟨i,hi,hz,hs,hb⟩:=infoPutI
 have:=fun w=>run_make (P:=Tryz.prog) w 22 52 i _ Tryz.underlying22 hi hz .i64 .i64 n n (by omega) (Int.le_refl _) (by rw[hb];omega) (by omega)
 simp only[Int.toNat_natCast] at this
 exact⟨_,by rw[size_madeCells,hs],this⟩
theorem look_ctF {w:World} {F:Nat->Prop} {g:Nat} {L:List Cc} (h:GridIn w F g L) (gL:∀x∈L,Gd x.2) {c s:Int} (hc:I64 c) (hs:I64 s) {mv:Option Nat} (hb:Blk w g [.map mv] 96) :
  ∃a sa b,Lk w g c s mv (a.val sa) b/\NdIn w F sa a.t/\a.v.x<18446744073709551616/\a.t.ok/\a.t.size<=1048576/\cpC a=a/\((b=true/\((c,s),a)∈L)∨(b=false/\a=ct0/\sa=.slice none 0 0/\∀a',((c,s),a')∉L)):=by
 obtain⟨mv',v,b,q1,q2⟩:=lk_of h hc hs
 have e:mv'=mv:=by
  have q:=q1.cell.symm.trans hb
  simpa using q
 subst e
 rcases q2 with ⟨rfl,ct,sl,h1,rfl,h3⟩|⟨rfl,rfl,h2⟩
 ·have hgd:=gL _ h1
  exact⟨ct,sl,true,q1,h3,hgd.x,hgd.ok,hgd.size,hgd.cp,.inl ⟨rfl,h1⟩⟩
 ·refine⟨ct0,.slice none 0 0,false,q1,zNd_in w _,by decide,zNd_ok,by show zNd.size<=_;rw[zsize];decide,?_,.inr ⟨rfl,rfl,rfl,h2⟩⟩
  unfold cpC ct0
  simp only[cpy_zNd]
  rfl
structure WiR (w w':World) (F:Nat->Prop) (L:List Cc) (b:Nat) (ys:List (Cc×Value)):Prop where
 low:w.heap.size<=b
 rng:∀i y,ys[i]? = some y->w'.rangeAt b (i*23) (ptCells y.1 y.2)
 strict:Strict (ys.map (·.1.1))
 mem:∀x,x∈ys.map (·.1)↔x∈L
 tree:∀y∈ys,NdIn w' F y.2 y.1.2.t
 kp:Kp w w' Nul
theorem rangeAt_kp {w w':World} {S:Nat->Prop} {b o:Nat} {cs:List Value} (h:w.rangeAt b o cs) (k:Kp w w' S) (hb:¬S b):w'.rangeAt b o cs:=fun j v hj=>by
 have h1:=h j v hj
 have e:=k.block b (cell_lt h1) hb
 simp only[World.cell?] at h1 ⊢
 rw[e];exact h1
theorem put_rng {α:Type} (P:α->List Value) (hP:∀y,(P y).length=23) {X W6:World} {b q:Nat} {ys:List α} {y0:α} (hW:X.setCells b (q*23) (P y0)=W6) (hl:ys.length=q) (ht:X.there b (q*23) 23) (h:∀(i:Nat) y,ys[i]? = some y->X.rangeAt b (i*23) (P y)) :
  ∀(i:Nat) y,(ys++[y0])[i]? = some y->W6.rangeAt b (i*23) (P y):=fun i y hy=>by
 have hle:=(List.getElem?_eq_some_iff.1 hy).1
 rw[List.length_append,List.length_singleton,hl] at hle
 subst hW
 rcases Nat.lt_or_ge i q with c' | c'
 ·rw[List.getElem?_append_left (by rw[hl];exact c')] at hy
  exact World.rangeAt_setCells_apart (h i y hy) _ _ _ (.inr (.inl (by rw[hP];omega)))
 ·have e:i=q:=by omega
  subst e
  rw[List.getElem?_append_right (by rw[hl];exact Nat.le_refl _),hl,Nat.sub_self] at hy
  have e2:y=y0:=by simpa using hy.symm
  subst e2
  exact World.rangeAt_setCells_same _ _ _ _ (by rw[hP];exact ht)
theorem rangeAt_alloc {w:World} {b o:Nat} {cs:List Value} (h:w.rangeAt b o cs) (ob:Obj):(w.alloc ob).drew.rangeAt b o cs:=rangeAt_kp h (((Kp.refl w Nul).alloc ob).drew) (fun x=>x)
theorem there_sets {w W6:World} {b o n o':Nat} {vs:List Value} {ob:Obj} (h:w.there b o n) (hW:(w.alloc ob).drew.setCells b o' vs=W6):W6.there b o n:=by
 subst hW
 exact World.there_setCells ((World.there_drew _ _ _ _).2 (World.there_alloc h ob)) _ _ _
theorem within_at (g:Nat) (F:Nat->Prop) (L:List Cc) (w:World) (hg:GI 0 w g L) (hF:GridIn w F g L) (gL:∀x∈L,Gd x.2) (hv:∀x∈L,vC x.1.1 x.1.2=true) (lL:L.length<=4096) :
  Calls Tryz.prog 98 #[.pointer (some ⟨g,0,none⟩),.agg #[.int .i64 1,.int .i64 1,.int .i64 256,.int .i64 4096]] w fun e w'=>∃b ys,e=.returned (.slice (some ⟨b,0,none⟩) ys.length ys.length)/\WiR w w' F L b ys:=by
 obtain⟨mv,bg⟩:=hg.blk
 have k1:Kp w (w.alloc (.cells #[.int .i64 1,.int .i64 1,.int .i64 256,.int .i64 4096] 34)) Nul:=(Kp.refl w Nul).alloc _
 have HFil:Hid (Calls Tryz.prog 134 #[.pointer (some ⟨g,0,none⟩),.agg #[.int .i64 1,.int .i64 1,.int .i64 256,.int .i64 4096]] (w.alloc (.cells #[.int .i64 1,.int .i64 1,.int .i64 256,.int .i64 4096] 34)) fun e w'=>∃U v',e=.returned v'/\CellsFrom w.heap.size w' v' U/\Strict U/\(∀x,x∈U↔∃a,(x,a)∈L)/\Kp w w' Nul):=
  (filled_at g L _ (hg.kp k1) hv lL).mono (by
   rintro e w' ⟨U,v',h1,h2,h3,h4,h5⟩
   exact⟨U,v',h1,h2.down k1.size,h3,h4,k1.trans h5⟩)
 have HI:Hid (∀x∈L,I64 x.1.1/\I64 x.1.2):=by
  obtain⟨_,⟨_,rfl⟩|⟨m,D,_,_,_,_,hm⟩⟩:=hg
  ·intro x hx;simp at hx
  ·exact hm.rng
 have HLook:Hid (∀c s,(∃a,((c,s),a)∈L)->∃a sa,((c,s),a)∈L/\NdIn w F sa a.t/\∀wq,Kp w wq Nul->wq.cell? ⟨g,0,none⟩=some (.map mv)/\(Instr.lookup 94 (.map mv) (.agg #[.int .i64 c,.int .i64 s]) false).run Tryz.prog wq=.ok (a.val sa) wq):=fun c s ⟨a0,h0⟩=>by
  have hi2:=HI.out _ h0
  obtain⟨a,sa,bb,hlk,hinA,hax,hao,_,_,hcase⟩:=look_ctF hF gL hi2.1 hi2.2 bg
  rcases hcase with ⟨_,hm⟩|⟨_,_,_,hno⟩
  ·exact⟨a,sa,hm,hinA,fun wq k=>⟨(bg.kp k (fun x=>x)).cell rfl,(lk_kp hlk k).one wq (fun _ _=>rfl)⟩⟩
  ·exact absurd h0 (hno a0)
 have HONCE:Hid (L.Pairwise (fun x y=>x.1≠y.1)):=hg.once
 have HUL:Hid (∀U,Strict U->(∀x,x∈U↔∃a,(x,a)∈L)->U.length<=4096):=fun U h1 h2=>by
  have hnd:U.Nodup:=strict_nodup h1
  have hsub:∀x∈U,x∈(L.map (·.1)):=fun x hx=>by
   obtain⟨a,h⟩:=(h2 x).1 hx
   exact List.mem_map.2 ⟨_,h,rfl⟩
  have:=nodup_le _ _ hnd hsub
  rw[List.length_map] at this
  omega
 clear hg hF gL hv lL bg k1
 go_enter Tryz.func98,Tryz.ntmps98
 go_wp2_with fail
 refine HFil.out.mono ?_
 rintro e w2 ⟨U,v2,rfl,⟨ua,uc,rfl,hcell⟩,hst,hmem,hk2⟩
 have HK2:Hid (Kp w w2 Nul):=hk2
 have HST:Hid (Strict U):=hst
 have HMEM:Hid (∀x,x∈U↔∃a,(x,a)∈L):=hmem
 have HLU:Hid (U.length<=4096):=HUL.out U hst hmem
 have HCell:Hid ((ua=none/\U=[])∨∃b,ua=some ⟨b,0,none⟩/\w.heap.size<=b/\CellsAt w2 b 0 U):=hcell
 clear hk2 hst hmem hcell HFil HUL
 generalize hn:U.length=n at *
 have HN:Hid (U.length=n):=hn
 obtain⟨cs,hcs,hmk⟩:=make_puts n (by have:=HLU.out;omega)
 have HCS:Hid (cs.size=n*23):=hcs
 clear hn hcs
 go_wp2_with fail
 clear hmk
 have hW:∃W,w2.alloc (.cells cs 52)=W:=⟨_,rfl⟩
 obtain⟨W,hW⟩:=hW
 rw[hW]
 have HT:Hid (W.there w2.heap.size 0 (n*23)):=by rw[<- hW];exact there_of_block (heap_alloc_new w2 _) 0 (n*23) (by rw[HCS.out];omega)
 have HKW:Hid (Kp w2 W Nul):=by rw[<- hW];exact(Kp.refl w2 Nul).alloc _
 have HBL:Hid (w2.heap.size<W.heap.size):=by rw[<- hW,World.size_alloc];exact Nat.lt_succ_self _
 clear hW
 obtain⟨b,hb⟩:∃b,w2.heap.size=b:=⟨_,rfl⟩
 rw[hb] at HT HBL
 have HB:Hid (w2.heap.size=b):=hb
 rw[hb]
 clear hb HCS
 go_loopw[17] (fun i wr=>∃(q:Nat) (ys:List (Cc×Value)),q<=n/\i=.int .i64 q/\ys.map (·.1.1)=U.take q/\(∀y∈ys,y.1∈L)/\(∀y∈ys,NdIn w F y.2 y.1.2.t)/\(∀i y,ys[i]? = some y->wr.rangeAt b (i*23) (ptCells y.1 y.2))/\wr.there b 0 (n*23)/\Kp W wr (fun i=>i=b)) (fun i _=>n-(RowKit.intOf i).toNat)
 case atStart=>exact⟨0,[],Nat.zero_le _,rfl,rfl,fun y h=>by simp at h,fun y h=>by simp at h,fun i y h=>by simp at h,HT.out,Kp.refl _ _⟩
 case round=>
  obtain⟨q,ys,hq,rfl,hmap,hin,htree,hrng,hth,hkq⟩:=hrel
  have HMAP:Hid (ys.map (·.1.1)=U.take q):=hmap
  have HINL:Hid (∀y∈ys,y.1∈L):=hin
  have HTREE:Hid (∀y∈ys,NdIn w F y.2 y.1.2.t):=htree
  have HRNG:Hid (∀i y,ys[i]? = some y->wr.rangeAt b (i*23) (ptCells y.1 y.2)):=hrng
  have HTH:Hid (wr.there b 0 (n*23)):=hth
  have HKQ:Hid (Kp W wr (fun i=>i=b)):=hkq
  have hysl:ys.length=min q n:=by rw[<- HN.out];have:=congrArg List.length hmap;simpa using this
  have HYL:Hid (ys.length=q):=by show _=_;omega
  have HKR:Hid (Kp w wr Nul):=(HK2.out.trans HKW.out).trans' hkq (fun i hi e=>by have h1:=HK2.out.size;have h2:=HB.out;have:i=b:=e;omega)
  clear hmap hin htree hrng hth hkq hysl
  by_cases hlt:q<n
  ·have hqt:q<U.length:=by rw[HN.out];exact hlt
   obtain⟨bu,rfl,hbw,hca⟩:∃b,ua=some ⟨b,0,none⟩/\w.heap.size<=b/\CellsAt w2 b 0 U:=by
    rcases HCell.out with ⟨_,h⟩|h
    ·rw[h] at hqt;simp at hqt
    ·exact h
   have hbu:bu<b:=by
    have:=cell_lt (hca q U[q] (List.getElem?_eq_getElem hqt)).1
    rw[HB.out] at this;exact this
   obtain⟨x0,x1⟩:=((hca.kp HKW.out (fun x=>x)).kp HKQ.out (fun e=>by have:bu=b:=e;omega)) q U[q] (List.getElem?_eq_getElem hqt)
   obtain⟨⟨c,s⟩,hcs⟩:∃cs,U[q]=cs:=⟨_,rfl⟩
   rw[hcs] at x0 x1
   simp only at x0 x1
   obtain⟨a,sa,hmL,htr,hlk⟩:=HLook.out c s ((HMEM.out _).1 (hcs ▸ List.getElem_mem hqt))
   have HML:Hid (((c,s),a)∈L):=hmL
   have HTR:Hid (NdIn w F sa a.t):=htr
   have HTK:Hid (U.take (q+1)=U.take q++[(c,s)]):=by show _=_;rw[List.take_add_one,List.getElem?_eq_getElem hqt,hcs];rfl
   have hkb:(q:Int)+1<=9223372036854775807:=by have:=HLU.out;omega
   have hq0:(0:Int)<=(q:Int):=by omega
   have hqn:(q:Int)<(n:Int):=by omega
   have x0':wr.cell? ⟨bu,q*2,none⟩=some (.int .i64 c):=by rw[Nat.zero_add] at x0;exact x0
   have x1':wr.cell? ⟨bu,q*2+1,none⟩=some (.int .i64 s):=by rw[Nat.zero_add] at x1;exact x1
   have hA:Blk (wr.alloc (.cells #[.int .i64 c,.int .i64 s] 32)) wr.heap.size [.int .i64 c,.int .i64 s] 32:=Blk.new wr _ _
   have hgc:=hlk _ ((HKR.out.alloc (.cells #[.int .i64 c,.int .i64 s] 32)).drew)
   have HA:Hid (∀wq,Kp (wr.alloc (.cells #[.int .i64 c,.int .i64 s] 32)) wq (fun i=>i=b)->wq.cell? ⟨wr.heap.size,0,none⟩=some (.int .i64 c)/\wq.cell? ⟨wr.heap.size,1,none⟩=some (.int .i64 s)/\wq.cell? ⟨g,0,none⟩=some (.map mv)/\(Instr.lookup 94 (.map mv) (.agg #[.int .i64 c,.int .i64 s]) false).run Tryz.prog wq=.ok (a.val sa) wq):=fun wq k=>by
    have hne:¬(wr.heap.size=b):=fun e=>by have h1:=HKQ.out.size;have h2:=HBL.out;omega
    have hkw:Kp w wq Nul:=(HKR.out.alloc _).trans' k (fun i hi e=>by have h1:=HK2.out.size;have h2:=HB.out;have:i=b:=e;omega)
    exact⟨(hA.kp k hne).cell rfl,(hA.kp k hne).cell rfl,(hlk wq hkw).1,(hlk wq hkw).2⟩
   clear hca hcs hqt x0 x1 hbw hA hlk hmL htr hbu hgc
   go_wp2_with fail
   clear x0' x1'
   refine wp_region_noPanic ?_
   refine wp_region_hel (fun w':World=>w'.cell? ⟨wr.heap.size,0,none⟩=some (.int .i64 c)/\w'.cell? ⟨wr.heap.size,1,none⟩=some (.int .i64 s)/\w'.cell? ⟨g,0,none⟩=some (.map mv)/\(Instr.lookup 94 (.map mv) (.agg #[.int .i64 c,.int .i64 s]) false).run Tryz.prog w'=.ok (a.val sa) w') (by kernel_rfl) (HA.out _ ((Kp.refl _ _).drew)) (fun hHeld=>?_)
   refine wpH_takes (i:=0) (v:=?_) (some 22) rfl rfl (by kernel_rfl) (fun _ _ _ h=>h) (Or.inl ⟨by rfl,?_⟩) hHeld ?_
   rotate_left
   ·intro w' hSw;obtain⟨s0,s1,s2,s3⟩:=hSw;go_simp;try with_reducible rfl
   simp only[Act.put,Sz0,Sz1,Sz2]
   refine wpH_takes (i:=1) (v:=?_) (some 23) rfl rfl (by kernel_rfl) (fun _ _ _ h=>h) (Or.inl ⟨by rfl,?_⟩) hHeld ?_
   rotate_left
   ·intro w' hSw;obtain⟨s0,s1,s2,s3⟩:=hSw;go_simp;try with_reducible rfl
   simp only[Act.put,Sz0,Sz1,Sz2]
   refine wpH_takes (i:=2) (v:=?_) (some 24) rfl rfl (by kernel_rfl) (fun _ _ _ h=>h) (Or.inl ⟨by rfl,?_⟩) hHeld ?_
   rotate_left
   ·intro w' hSw;obtain⟨s0,s1,s2,s3⟩:=hSw;go_simp;try with_reducible rfl
   simp only[Act.put,Sz0,Sz1,Sz2]
   refine wpH_takes (i:=3) (v:=?_) (some 25) rfl rfl (by kernel_rfl) (fun _ _ _ h=>h) (Or.inl ⟨by rfl,?_⟩) hHeld ?_
   rotate_left
   ·intro w' hSw;obtain⟨s0,s1,s2,s3⟩:=hSw;go_simp;try with_reducible rfl
   simp only[Act.put,Sz0,Sz1,Sz2]
   refine wpH_takes (i:=4) (v:=?_) (some 26) rfl rfl (by kernel_rfl) (fun _ _ _ h=>h) (Or.inl ⟨by rfl,?_⟩) hHeld ?_
   rotate_left
   ·intro w' hSw;obtain⟨s0,s1,s2,s3⟩:=hSw;go_simp;try with_reducible rfl
   simp only[Act.put,Sz0,Sz1,Sz2]
   refine wpH_takes (i:=5) (v:=?_) (some 27) rfl rfl (by kernel_rfl) (fun _ _ _ h=>h) (Or.inl ⟨by rfl,?_⟩) hHeld ?_
   rotate_left
   ·intro w' hSw;obtain⟨s0,s1,s2,s3⟩:=hSw;go_simp;try with_reducible rfl
   simp only[Act.put,Sz0,Sz1,Sz2]
   refine wpH_takes (i:=6) (v:=?_) (some 28) rfl rfl (by kernel_rfl) (fun _ _ _ h=>h) (Or.inl ⟨by rfl,?_⟩) hHeld ?_
   rotate_left
   ·intro w' hSw;obtain⟨s0,s1,s2,s3⟩:=hSw;go_simp;try with_reducible rfl
   simp only[Act.put,Sz0,Sz1,Sz2]
   refine wpH_takes (i:=7) (v:=?_) (some 29) rfl rfl (by kernel_rfl) (fun _ _ _ h=>h) (Or.inl ⟨by rfl,?_⟩) hHeld ?_
   rotate_left
   ·intro w' hSw;obtain⟨s0,s1,s2,s3⟩:=hSw;go_simp;try with_reducible rfl
   simp only[Act.put,Sz0,Sz1,Sz2]
   refine wpH_takes (i:=8) (v:=?_) (some 30) rfl rfl (by kernel_rfl) (fun _ _ _ h=>h) (Or.inl ⟨by rfl,?_⟩) hHeld ?_
   rotate_left
   ·intro w' hSw;obtain⟨s0,s1,s2,s3⟩:=hSw;go_simp;try with_reducible rfl
   simp only[Act.put,Sz0,Sz1,Sz2]
   refine wpH_takes (i:=9) (v:=?_) (some 31) rfl rfl (by kernel_rfl) (fun _ _ _ h=>h) (Or.inl ⟨by rfl,?_⟩) hHeld ?_
   rotate_left
   ·intro w' hSw;obtain⟨s0,s1,s2,s3⟩:=hSw;go_simp;try with_reducible rfl
   simp only[Act.put,Sz0,Sz1,Sz2]
   refine wpH_takes (i:=10) (v:=?_) (some 32) rfl rfl (by kernel_rfl) (fun _ _ _ h=>h) (Or.inl ⟨by rfl,?_⟩) hHeld ?_
   rotate_left
   ·intro w' hSw;obtain⟨s0,s1,s2,s3⟩:=hSw;go_simp;try with_reducible rfl
   simp only[Act.put,Sz0,Sz1,Sz2]
   refine wpH_step (i:=11) (by kernel_rfl) rfl rfl (fun K hK=>?_)
   have T5:Hid ((wr.alloc (.cells #[.int .i64 c,.int .i64 s] 32)).drew.there b (q*23) 23):=by
    have h1:=World.there_alloc HTH.out (.cells #[.int .i64 c,.int .i64 s] 32)
    intro j hj
    have:=h1 (q*23+j) (by omega)
    rw[Nat.zero_add] at this
    exact this
   have O5:Hid ((ptCells ((c,s),a) sa).toArray.all (·.oneCell')=true):=all_oneCell_toArray (pt_one _ HTR.out.one)
   refine wp_store_mid 52 (.tmp 32) (.tmp 31) rfl b (q*23) (ptCells ((c,s),a) sa).toArray rfl rfl T5.out infoPut O5.out ?_
   obtain⟨W6,hW6⟩:∃W6,(wr.alloc (.cells #[.int .i64 c,.int .i64 s] 32)).drew.setCells b (q*23) (ptCells ((c,s),a) sa)=W6:=⟨_,rfl⟩
   have k6:Kp (wr.alloc (.cells #[.int .i64 c,.int .i64 s] 32)) W6 (fun i=>i=b):=(Kp.refl _ _).drew.trans (hW6 ▸ setCells_kp (fun i=>i=b) rfl _ _ _)
   have HK6:Hid (Kp W W6 (fun i=>i=b)):=(HKQ.out.alloc _).trans k6
   have HR6:Hid (∀i y,(ys++[(((c,s),a),sa)])[i]? = some y->W6.rangeAt b (i*23) (ptCells y.1 y.2)):=put_rng (fun y:Cc×Value=>ptCells y.1 y.2) (fun y=>pt_len y.1 y.2) hW6 HYL.out T5.out (fun i y hy=>rangeAt_alloc (HRNG.out i y hy) _)
   have HT6:Hid (W6.there b 0 (n*23)):=there_sets HTH.out hW6
   have HM6:Hid ((ys++[(((c,s),a),sa)]).map (·.1.1)=U.take (q+1)):=by show _=_;rw[List.map_append,HMAP.out,HTK.out];rfl
   have HL6:Hid (∀y∈ys++[(((c,s),a),sa)],y.1∈L):=fun y hy=>by
    rcases List.mem_append.1 hy with hy|hy
    ·exact HINL.out y hy
    ·rw[List.mem_singleton] at hy
     subst hy
     exact HML.out
   have HTR6:Hid (∀y∈ys++[(((c,s),a),sa)],NdIn w F y.2 y.1.2.t):=fun y hy=>by
    rcases List.mem_append.1 hy with hy|hy
    ·exact HTREE.out y hy
    ·rw[List.mem_singleton] at hy
     subst hy
     exact HTR.out
   have hS6:=HA.out W6 k6
   show K _ ((wr.alloc (.cells #[.int .i64 c,.int .i64 s] 32)).drew.setCells b (q*23) (ptCells ((c,s),a) sa))
   rw[hW6]
   refine hK.out _ _ hS6 (fun _=>?_)
   clear hK K k6 hW6 hS6 T5 O5 HA hHeld
   refine wpAnyH_done (by kernel_rfl) ?_ _
   refine NoPanic.normal ?_
   go_wp2_with fail
   go_roundw
   case rel=>exact⟨q+1,_,by omega,by go_num,HM6.out,HL6.out,HTR6.out,HR6.out,HT6.out,HK6.out⟩
   case measure=>simp only[RowKit.intOf];omega
  ·have hqe:q=n:=by omega
   subst hqe
   have hqn:¬((q:Int)<(q:Int)):=by omega
   have hall:U.take q=U:=by rw[List.take_of_length_le (by rw[HN.out];exact Nat.le_refl _)]
   have HEND:Hid (WiR w wr F L b ys):=by
    refine⟨by have:=HK2.out.size;have:=HB.out;omega,HRNG.out,?_,fun x=>⟨fun h=>?_,fun h=>?_⟩,fun y hy=>(HTREE.out y hy).kp HKR.out (fun _ _ x=>x),HKR.out⟩
    ·rw[HMAP.out,hall];exact HST.out
    ·obtain⟨y,hy,rfl⟩:=List.mem_map.1 h
     exact HINL.out y hy
    ·have h1:x.1∈ys.map (·.1.1):=by rw[HMAP.out,hall];exact(HMEM.out x.1).2 ⟨x.2,h⟩
     obtain⟨y,hy,e⟩:=List.mem_map.1 h1
     have h2:=HINL.out y hy
     refine List.mem_map.2 ⟨y,hy,Prod.ext e ?_⟩
     have h3:(x.1,y.1.2)∈L:=by rw[<- e];exact h2
     exact(once_eq HONCE.out h3 h)
   have HYQ:Hid (ys.length=q):=HYL.out
   clear HRNG HMAP HTREE HINL hall
   go_wp2_with fail
   go_ret
   exact⟨b,ys,by rw[HYQ.out];rfl,HEND.out⟩
end Go.Proofs.YtecjfnkakodebaaGreatDoor
