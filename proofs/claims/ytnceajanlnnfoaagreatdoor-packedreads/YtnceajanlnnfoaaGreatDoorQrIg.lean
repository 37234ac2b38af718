/-unlike: the cells in which two grids have not the same. -/
import Derived.Test.YtnceajanlnnfoaaGreatDoorQrId
import Derived.Test.YtnceajanlnnfoaaGreatDoorQrIf
import Derived.Test.YtnceajanlnnfoaaGreatDoorQrIh
import Derived.Great.BuildSlice
import Derived.Test.YtnceajanlnnfoaaGreatDoorQrUp
set_option maxRecDepth 100000
set_option maxHeartbeats 16000000
namespace Go.Proofs.YtnceajanlnnfoaaGreatDoor
section
open Go.RowKit Go.Maps Go.Sort Go.Lib
theorem GRg.lt {w:World}{A:Nat}{mv:Option Nat}{r:Nat}{rem:List Cc}(h:GRg w A mv r rem):r<w.heap.size:=by
 obtain⟨_,_,⟨_,_,q⟩|⟨m,D,left,cnt,_,_,q,_⟩⟩:=h
 ·exact(Array.getElem?_eq_some_iff.1 q).1
 ·exact q.lt
theorem GRg.no_cells {w:World}{A:Nat}{mv:Option Nat}{r:Nat}{rem:List Cc}(h:GRg w A mv r rem):∀cs t f,w.heap[r]? ≠ some (.cells cs t f):=fun cs t f q=>by
 obtain⟨_,_,⟨_,_,e⟩|⟨m,D,left,cnt,_,_,e,_⟩⟩:=h
 ·rw[e] at q;cases q
 ·obtain⟨es,clock,since,seen,c0,h1,h2,h3,h4,h5,h6⟩:=e;rw[h5] at q;cases q
def UnP (L:List Cc) (x:Int×Int) (b:Ct):Prop:=¬ ∃a,(x,a)∈L/\J4 a b=true
def Un (L M:List Cc) (x:Int×Int):Prop:=(∃b,(x,b)∈M/\UnP L x b)∨((∃a,(x,a)∈L)/\∀b,(x,b)∉M)
structure UnR (w:World) (A:Nat) (mv:Option Nat) (r n:Nat) (P:Cc->Prop) (base:(Int×Int)->Prop) (all:List Cc) (v:Value) (wr:World) (rem:List Cc) (acc:List (Int×Int)):Prop where
 rg:GRg wr A mv r rem
 row:wr.ownsRow A 57 2 v acc.length (flatK encA 2 acc.toArray).toList
 len:acc.length+rem.length<=n
 nodup:acc.Nodup
 mem:∀x,x∈acc↔base x∨∃b,(x,b)∈all/\(x,b)∉rem/\P (x,b)
 sub:∀x,x∈rem->x∈all
 kp:Kp w wr Nul
theorem j9N {rem:List Cc}{c s:Int}{ct:Ct}(ho:rem.Pairwise (fun x y=>x.1≠y.1))(h:((c,s),ct)∈rem):(rem.filter (fun x=>decide (x.1≠(c,s)))).length+1=rem.length:=j0X ho h
theorem UnR.take {w:World}{A:Nat}{mv:Option Nat}{r n:Nat}{P:Cc->Prop}{base:(Int×Int)->Prop}{all:List Cc}{v v2:Value}{wr w2:World}{rem:List Cc}{acc:List (Int×Int)}(h:UnR w A mv r n P base all v wr rem acc){c s:Int}{ct:Ct}(hm:((c,s),ct)∈rem)
 (hp:P ((c,s),ct)) (hone:all.Pairwise (fun x y=>x.1≠y.1)) (hb:¬base (c,s)) (hrg:GRg w2 A mv r (rem.filter (fun x=>decide (x.1≠(c,s))))) (hrow:w2.ownsRow A 57 2 v2 (acc.length+1) ((flatK encA 2 acc.toArray).toList++encA (c,s))) (hk:Kp w w2 Nul) :
 UnR w A mv r n P base all v2 w2 (rem.filter (fun x=>decide (x.1≠(c,s)))) (acc++[(c,s)]):=by
 have hx:(c,s)∉acc:=fun q=>by
  rcases(h.mem _).1 q with q|⟨b,q1,q2,_⟩
  ·exact hb q
  ·rw[j0g hone q1 (h.sub _ hm)] at q2;exact q2 hm
 refine⟨hrg,by rw[j4P,List.length_append];exact hrow,by have:=h.len;have:=j9N h.rg.1 hm;simp only[List.length_append,List.length_singleton];omega,jBB h.nodup hx,fun x=>?_,fun x hx=>h.sub x (List.mem_filter.1 hx).1,hk⟩;rw[List.mem_append,List.mem_singleton,h.mem];constructor
 ·rintro((q|⟨b,q1,q2,q3⟩)|rfl)
  ·exact .inl q
  ·exact .inr ⟨b,q1,fun q=>q2 (List.mem_filter.1 q).1,q3⟩
  ·exact .inr ⟨ct,h.sub _ hm,fun q=>by have:=of_decide_eq_true (List.mem_filter.1 q).2;exact this rfl,hp⟩
 ·rintro(q|⟨b,q1,q2,q3⟩)
  ·exact .inl (.inl q)
  ·by_cases e:x=(c,s)
   ·exact .inr e
   ·exact .inl (.inr ⟨b,q1,fun q=>q2 (List.mem_filter.2 ⟨q,decide_eq_true e⟩),q3⟩)
theorem jDA {w:World}{A:Nat}{mv:Option Nat}{r:Nat}{rem:List Cc}{e:TypeId}{k n:Nat}{v:Value}{xs:List Value}(h:GRg w A mv r rem)(q:w.ownsRow A e k v n xs):v.ownBlock≠some r:=fun eq=>by
 obtain⟨_,⟨rfl,_⟩|⟨g,c,cur,rfl,_,h3,_⟩⟩:=q
 ·cases eq
 ·have:g=r:=by simpa [Value.ownBlock] using eq
  subst this;exact h.no_cells _ _ _ h3
theorem j2g {α:Type}[DecidableEq α]:∀(l m:List α),l.Nodup->(∀x∈l,x∈m)->l.length<=m.length
 | [],m,_,_=>Nat.zero_le _
 | x::l,m,hn,hs=>by
  rw[List.nodup_cons] at hn;have hx:x∈m:=hs x List.mem_cons_self;have h:=j2g l (m.erase x) hn.2 (fun y hy=>(List.mem_erase_of_ne (by rintro rfl;exact hn.1 hy)).2 (hs y (List.mem_cons_of_mem _ hy)));rw[List.length_erase_of_mem hx] at h;have:0<m.length:=List.length_pos_of_mem hx;rw[List.length_cons];omega
theorem j6L {U:List (Int×Int)}(h:D7 U):U.Nodup:=h.imp (fun {x y} h e=>by subst e;rw[swoA.irrefl] at h;cases h)
theorem j0u {ops:Array Oper}{rest:List Oper}{o:Oper}{a:Act}{w:World}{Q:Exit->Act->World->Prop}(hgd:o.guard=none)(ty:TypeId)(x y:Operand)(ho:o.op=.store ty x y)
 (b:Nat) (hx:a.eval x=.pointer (some ⟨b,0,none⟩)) (v:Value) (hy:a.eval y=v) (h1:v.oneCell'=true) (t:TypeId) (old:Value) (hb:Blk w b [old] t) (hi:(Tryz.prog.info? ty).map (·.size)=some 1)
 (h:∀W,Blk W b [v] t->Kp w W (fun i=>i=b)->wpList Tryz.prog ops Q rest (a.put o.dst undef) W):wpList Tryz.prog ops Q (o::rest) a w:=by
 subst hy;refine wpList_store_one hgd ty x y ho b hx h1 t old hb hi (h _ (setRow_heap w b #[old] #[a.eval y] t (0,0) hb) ?_);refine⟨rfl,rfl,rfl,?_,fun i _ hn=>?_⟩
 ·unfold World.setRow;simp
 ·unfold World.setRow;simp only[Array.getElem?_modify];rw[if_neg (fun e=>hn e.symm)]
theorem jD9 {w:World}{B B':Nat}{e:TypeId}{k n:Nat}{v:Value}{xs:List Value}(h:w.ownsRow B e k v n xs)(hb:B'<=B):w.ownsRow B' e k v n xs:=by
 obtain⟨h0,h⟩:=h;refine⟨h0,?_⟩;rcases h with h|⟨g',c',cur,h1,h2,h3⟩
 ·exact .inl h
 ·exact .inr ⟨g',c',cur,h1,Nat.le_trans hb h2,h3⟩
theorem jDB {w:World}{B:Nat}{e:TypeId}{k n:Nat}{v:Value}{xs:List Value}(h:w.ownsRow B e k v n xs):v.oneCell'=true:=by
 obtain⟨_,⟨rfl,_⟩|⟨g',c',cur,rfl,_⟩⟩:=h <;> rfl
theorem X0.down {B B':Nat}{w:World}{v:Value}{L:List (Int×Int)}(h:X0 B w v L)(hb:B'<=B):X0 B' w v L:=by
 obtain⟨a,c,h1,h2|⟨b,h2,h3,h4⟩⟩:=h
 ·exact⟨a,c,h1,.inl h2⟩
 ·exact⟨a,c,h1,.inr ⟨b,h2,Nat.le_trans hb h3,h4⟩⟩
structure Fi (w:World) (g:Nat) (mv:Option Nat) (r:Nat) (L:List Cc) (v:Value) (wr:World) (rem:List Cc) (acc:List (Int×Int)):Prop where
 un:UnR w w.heap.size mv r L.length (fun _=>True) (fun _=>False) L v wr rem acc
 row:wr.ownsRow (w.heap.size+1+1+1) 57 2 v acc.length (flatK encA 2 acc.toArray).toList
 b0:Blk wr w.heap.size [.pointer (some ⟨g,0,none⟩)] 23
 b1:Blk wr (w.heap.size+1) [.int .i64 1,.int .i64 1,.int .i64 256,.int .i64 4096] 134
 b2:Blk wr (w.heap.size+1+1) [v] 227
theorem j9M (g:Nat)(L:List Cc)(w:World)(hg:GI 0 w g L)(hv:∀x∈L,vC x.1.1 x.1.2=true)(lL:L.length<=4096):
 Calls Tryz.prog 169 #[.pointer (some ⟨g,0,none⟩),.agg #[.int .i64 1,.int .i64 1,.int .i64 256,.int .i64 4096]] w fun e w'=>∃U v',e=.returned v'/\X0 w.heap.size w' v' U/\D7 U/\(∀x,x∈U↔∃a,(x,a)∈L)/\Kp w w' Nul:=by
 obtain⟨mv,bg,hlen⟩:=j0Z hg;obtain⟨i0,hi,hz0,hz1,hz2⟩:=j9n;obtain⟨W3,hW3⟩:∃W3,((w.alloc (.cells #[.pointer (some ⟨g,0,none⟩)] 23)).alloc (.cells #[.int .i64 1,.int .i64 1,.int .i64 256,.int .i64 4096] 134)).alloc (.cells #[.slice none 0 0] 227)=W3:=⟨_,rfl⟩;have k3:Kp w W3 Nul:=by rw[<- hW3];exact(((Kp.refl w Nul).alloc _).alloc _).alloc _
 have s3:W3.heap.size=w.heap.size+1+1+1:=by rw[<- hW3,World.size_alloc,World.size_alloc,World.size_alloc]
 have B0:Blk W3 w.heap.size [.pointer (some ⟨g,0,none⟩)] 23:=by rw[<- hW3];exact((Blk.new w [.pointer (some ⟨g,0,none⟩)] _).alloc _).alloc _
 have B1:Blk W3 (w.heap.size+1) [.int .i64 1,.int .i64 1,.int .i64 256,.int .i64 4096] 134:=by
  have:=Blk.new (w.alloc (.cells #[.pointer (some ⟨g,0,none⟩)] 23)) [.int .i64 1,.int .i64 1,.int .i64 256,.int .i64 4096] 134;rw[World.size_alloc] at this;rw[<- hW3];exact this.alloc _
 have B2:Blk W3 (w.heap.size+1+1) [.slice none 0 0] 227:=by
  have:=Blk.new ((w.alloc (.cells #[.pointer (some ⟨g,0,none⟩)] 23)).alloc (.cells #[.int .i64 1,.int .i64 1,.int .i64 256,.int .i64 4096] 134)) [.slice none 0 0] 227;rw[World.size_alloc,World.size_alloc] at this;rw[<- hW3];exact this
 have HS:Hid (∀wq,Kp W3 wq Nul->wq.cell? ⟨w.heap.size,0,none⟩=some (.pointer (some ⟨g,0,none⟩))/\wq.cell? ⟨w.heap.size+1,0,none⟩=some (.int .i64 1)/\wq.cell? ⟨w.heap.size+1,1,none⟩=some (.int .i64 1)/\wq.cell? ⟨w.heap.size+1,2,none⟩=some (.int .i64 256)/\wq.cell? ⟨w.heap.size+1,3,none⟩=some (.int .i64 4096)/\wq.cell? ⟨g,0,none⟩=some (.map mv)/\∀ty,(Builtin.len_ #[122] ty #[.map mv]).run Tryz.prog wq=.ok (.int .i64 L.length) wq):=fun wq k=>
  ⟨(B0.kp k (fun x=>x)).cell rfl,(B1.kp k (fun x=>x)).cell rfl,(B1.kp k (fun x=>x)).cell rfl,(B1.kp k (fun x=>x)).cell rfl,(B1.kp k (fun x=>x)).cell rfl,(bg.kp (k3.trans k) (fun x=>x)).cell rfl,hlen wq (k3.trans k)⟩
 have HSize:Hid (∀wq,Kp W3 wq Nul->Calls Tryz.prog 189 #[.agg #[.int .i64 1,.int .i64 1,.int .i64 256,.int .i64 4096]] wq fun e w'=>e=.returned (.int .i64 1048576)/\Kp W3 w' Nul):=fun wq k=>(jBf 1 1 256 4096 wq).mono fun e w' ⟨q1,q2⟩=>⟨q1,k.trans (Kp.of_gr q2)⟩
 have HIn:Hid (∀c s wq,vC c s=true->Calls Tryz.prog 191 #[.agg #[.int .i64 1,.int .i64 1,.int .i64 256,.int .i64 4096],.agg #[.int .i64 c,.int .i64 s]] wq fun e w'=>e=.returned (.bool true)/\Kp wq w' Nul):=fun c s wq hc=>(jBd 1 1 256 4096 c s wq).mono fun e w' ⟨q1,q2⟩=>by
  refine⟨?_,Kp.of_gr q2⟩;rw[q1];have:=(Z3 c s).1 hc;simp[inA,vA,vC,this]
 have HG:Hid (GI 0 w g L):=hg;have HBg:Hid (Blk w g [.map mv] 124):=bg;have HLL:Hid (L.length<=4096):=lL;have HV:Hid (∀x∈L,vC x.1.1 x.1.2=true):=hv;have HW3:Hid (((w.alloc (.cells #[.pointer (some ⟨g,0,none⟩)] 23)).alloc (.cells #[.int .i64 1,.int .i64 1,.int .i64 256,.int .i64 4096] 134)).alloc (.cells #[.slice none 0 0] 227)=W3):=hW3;have HK3:Hid (Kp w W3 Nul):=k3;have HS3:Hid (W3.heap.size=w.heap.size+1+1+1):=s3;have HB0:Hid (Blk W3 w.heap.size [.pointer (some ⟨g,0,none⟩)] 23):=B0;have HB1:Hid (Blk W3 (w.heap.size+1) [.int .i64 1,.int .i64 1,.int .i64 256,.int .i64 4096] 134):=B1;have HB2:Hid (Blk W3 (w.heap.size+1+1) [.slice none 0 0] 227):=B2;have hnl:¬((1048576:Int)<(L.length:Int)):=by omega
 clear hg bg hlen lL hv hW3 k3 s3 B0 B1 B2;go_enter Tryz.func169,Tryz.ntmps169;go_wp2_with fail;rw[HW3.out];clear HW3;refine wp_region_noPanic ?_;refine j6u (W:=W3) (Kp.refl _ _) (by kernel_rfl) (by kernel_rfl) ?_;refine F9 (some 8) rfl ?_ (by rfl) ?_ ?_;rotate_left
 ·intro w' hk;obtain⟨s0,s1,s2,s3,s4,s5,s6⟩:=HS.out _ hk;clear hk;go_simp;try with_reducible rfl
 simp only[Act.put,Sz0,Sz1,Sz2];refine j5E (some 9) rfl 189 #[.agg #[.int .i64 1,.int .i64 1,.int .i64 256,.int .i64 4096]] (.int .i64 1048576) (by rfl) (fun w'=>by go_simp) (fun w' hk=>HSize.out w' hk) ?_;simp only[Act.put,Sz0,Sz1,Sz2];refine F9 (some 10) rfl ?_ (by rfl) ?_ ?_;rotate_left
 ·intro w' hk;obtain⟨s0,s1,s2,s3,s4,s5,s6⟩:=HS.out _ hk;clear hk;go_simp;try with_reducible rfl
 simp only[Act.put,Sz0,Sz1,Sz2];refine F9 (some 11) rfl ?_ (by rfl) ?_ ?_;rotate_left
 ·intro w' hk;obtain⟨s0,s1,s2,s3,s4,s5,s6⟩:=HS.out _ hk;clear hk;go_simp;try with_reducible rfl
 simp only[Act.put,Sz0,Sz1,Sz2];refine F9 (some 12) rfl ?_ (by rfl) ?_ ?_;rotate_left
 ·intro w' hk;obtain⟨s0,s1,s2,s3,s4,s5,s6⟩:=HS.out _ hk;clear hk;go_simp;try with_reducible rfl
 simp only[Act.put,Sz0,Sz1,Sz2];refine F9 (some 13) rfl ?_ (by rfl) ?_ ?_;rotate_left
 ·intro w' hk;obtain⟨s0,s1,s2,s3,s4,s5,s6⟩:=HS.out _ hk;clear hk;go_simp;try with_reducible rfl
 simp only[Act.put,Sz0,Sz1,Sz2];refine F9 (some 14) rfl ?_ (by rfl) ?_ ?_;rotate_left
 ·intro w' hk;obtain⟨s0,s1,s2,s3,s4,s5,s6⟩:=HS.out _ hk;clear hk;go_simp;try with_reducible rfl
 simp only[Act.put,Sz0,Sz1,Sz2];refine F9 (some 15) rfl (.bool false) (by rfl) ?_ ?_
 ·intro w' hk;clear hk;go_simp;try simp[hnl]
 simp only[Act.put,Sz0,Sz1,Sz2];refine wpQuiet_nil ?_;intro w2 hk2;refine NoPanic.normal ?_;obtain⟨c0,_,_,_,_,c5,_⟩:=HS.out w2 hk2;have HLow:Hid (j9 w2 (fun b=>b<w.heap.size) g L):=HG.out.low.kp (HK3.out.trans hk2);have HBg2:Hid (Blk w2 g [.map mv] 124):=HBg.out.kp (HK3.out.trans hk2) (fun x=>x);have HKW:Hid (Kp W3 w2 Nul):=hk2;clear hk2 hnl HS HSize;go_wp2_with (first
  | (at_range;refine j6q _ rfl _ rfl g L mv w.heap.size rfl HLow.out HBg2.out ?_;intro w0 hrg0 hg0 hs0)
  | fail)
 have HStart:Hid (Fi w g mv w2.heap.size L (.slice none 0 0) w0 L []):=by
  have k0:Kp w2 w0 Nul:=Kp.of_grown hg0 (fun i e=>by cases e);have k30:Kp W3 w0 Nul:=HKW.out.trans k0;have r0:∀B,w0.ownsRow B 57 2 (.slice none 0 0) ([]:List (Int×Int)).length (flatK encA 2 ([]:List (Int×Int)).toArray).toList:=fun B=>⟨by simp[flatK],.inl ⟨rfl,rfl⟩⟩
  refine⟨⟨hrg0,r0 _,by simp,List.nodup_nil,fun x=>⟨fun h=>by simp at h,fun h=>?_⟩,fun x h=>h,HK3.out.trans k30⟩,r0 _,HB0.out.kp k30 (fun x=>x),HB1.out.kp k30 (fun x=>x),HB2.out.kp k30 (fun x=>x)⟩;rcases h with h|⟨b,h1,h2,_⟩
  ·exact h.elim
  ·exact absurd h1 h2
 have HAr:Hid (w.heap.size+1+1+1<=w2.heap.size):=by show _<=_;have:=HKW.out.size;have:=HS3.out;omega
 clear hrg0 hg0 hs0 c0 c5 HLow HBg2 HKW HB0 HB1 HB2 HS3 HK3
 go_frame
 obtain⟨r2,hr2⟩:∃r2,w2.heap.size=r2:=⟨_,rfl⟩;rw[hr2] at HStart HAr;rw[hr2];clear hr2;go_loopw[] (fun wr=>∃v rem acc,Fi w g mv r2 L v wr rem acc) (fun wr=>glen wr mv r2)
 case atStart=>exact⟨_,L,[],HStart.out⟩
 case round=>
  clear HStart;obtain⟨v,rem,acc,hfi⟩:=hrel;have HF:Hid (Fi w g mv r2 L v wr rem acc):=hfi;have HRG:Hid (GRg wr w.heap.size mv r2 rem):=hfi.un.rg;have hA2:w.heap.size<=r2:=by have:=HAr.out;omega
  clear hfi;go_wp2_with (first
   | (at_next;refine j6p _ rfl _ rfl w.heap.size mv r2 rem rfl HRG.out hA2 ?_ ?_)
   | fail)
  ·intro hr0;have d2:wr.cell? ⟨w.heap.size+1+1,0,none⟩=some v:=HF.out.b2.cell rfl;have HSort:Hid (Calls Tryz.prog 192 #[v,.func (.func 134) #[] #[]] wr fun e w'=>e=.returned (.tuple #[])/\X0 w.heap.size w' v (acc.mergeSort fun x y=>!(ltOf cfA) y x)/\Kp w w' Nul/\w'.cell? ⟨w.heap.size+1+1,0,none⟩=some v):=by
    have hacc:acc.length<=1048576:=(by have:=HF.out.un.len;have:=HLL.out;omega);refine(jE7 acc v (w.heap.size+1+1+1) wr hacc (jBS rfl HF.out.row)).mono ?_;rintro e w' ⟨rfl,h1,h2⟩;exact⟨rfl,(jBR h1).down (by omega),HF.out.un.kp.trans' h2 (fun i hi e=>absurd e (by omega)),(HF.out.b2.kp h2 (by omega)).cell rfl⟩
   have HM2:Hid (∀x,x∈(acc.mergeSort fun x y=>!(ltOf cfA) y x)↔∃a,(x,a)∈L):=fun x=>by
    rw[List.mem_mergeSort,HF.out.un.mem,hr0];simp
   have HST:Hid (D7 (acc.mergeSort fun x y=>!(ltOf cfA) y x)):=jAn HF.out.un.nodup;clear hr0 HF HRG hA2;go_wp2_with fail;refine HSort.out.mono ?_;rintro e w' ⟨rfl,hcf,hk,d3⟩;go_wp2_with fail;go_ret;exact⟨_,_,rfl,hcf,HST.out,HM2.out,hk⟩
  ·intro c s ct sl w1 hmem hin hrg1 hlt1 hgr1 hsz1 hen;have k1:Kp wr w1 (fun i=>i=r2):=Kp.of_grown hgr1 (fun i e=>by cases e;rfl);have HK1:Hid (Kp w w1 Nul):=HF.out.un.kp.trans' k1 (fun i hi e=>by have:i=r2:=e;omega);have hne:=jDA HRG.out HF.out.un.row;have HNE:Hid (v.ownBlock≠some r2):=hne;have HRow1:Hid (w1.ownsRow (w.heap.size+1+1+1) 57 2 v acc.length (flatK encA 2 acc.toArray).toList):=HF.out.row.kept hgr1 (.inr hne);have hr3:=HAr.out;have b0:=HF.out.b0.kp k1 (fun e=>by have:w.heap.size=r2:=e;omega);have b1:=HF.out.b1.kp k1 (fun e=>by have:w.heap.size+1=r2:=e;omega);have b2:=HF.out.b2.kp k1 (fun e=>by have:w.heap.size+1+1=r2:=e;omega);have HB0:Hid (Blk w1 w.heap.size [.pointer (some ⟨g,0,none⟩)] 23):=b0;have HB1:Hid (Blk w1 (w.heap.size+1) [.int .i64 1,.int .i64 1,.int .i64 256,.int .i64 4096] 134):=b1;have HB2:Hid (Blk w1 (w.heap.size+1+1) [v] 227):=b2
   have d0:(w1.alloc (.cells #[.int .i64 c,.int .i64 s] 57)).cell? ⟨w.heap.size+1,0,none⟩=some (.int .i64 1):=(b1.alloc _).cell rfl;have d1:(w1.alloc (.cells #[.int .i64 c,.int .i64 s] 57)).cell? ⟨w.heap.size+1,1,none⟩=some (.int .i64 1):=(b1.alloc _).cell rfl;have d2:(w1.alloc (.cells #[.int .i64 c,.int .i64 s] 57)).cell? ⟨w.heap.size+1,2,none⟩=some (.int .i64 256):=(b1.alloc _).cell rfl;have d3:(w1.alloc (.cells #[.int .i64 c,.int .i64 s] 57)).cell? ⟨w.heap.size+1,3,none⟩=some (.int .i64 4096):=(b1.alloc _).cell rfl;have HC:Hid (vC c s=true):=HV.out _ (HF.out.un.sub _ hmem);have HG1:Hid (GRg w1 w.heap.size mv r2 (rem.filter (fun x=>decide (x.1≠(c,s))))):=(by show GRg _ _ _ _ _;simpa using hrg1);have HLT:Hid (glen w1 mv r2<glen wr mv r2):=hlt1;have HMEM:Hid (((c,s),ct)∈rem):=hmem;have HA3:Hid (∀wq,Kp (w1.alloc (.cells #[.int .i64 c,.int .i64 s] 57)) wq Nul->wq.cell? ⟨w1.heap.size,0,none⟩=some (.int .i64 c)/\wq.cell? ⟨w1.heap.size,1,none⟩=some (.int .i64 s)/\wq.cell? ⟨w.heap.size+1+1,0,none⟩=some v):=fun wq k=>⟨((Blk.new w1 [.int .i64 c,.int .i64 s] 57).kp k (fun x=>x)).cell rfl,((Blk.new w1 [.int .i64 c,.int .i64 s] 57).kp k (fun x=>x)).cell rfl,(HB2.out.kp (((Kp.refl w1 Nul).alloc _).trans k) (fun x=>x)).cell rfl⟩
   clear hne k1 hrg1 hlt1 hgr1 hsz1 hmem hin b0 b1 b2 hr3 hA2;go_wp2_with fail;refine(HIn.out c s _ HC.out).mono ?_;rintro e w3 ⟨rfl,hk3⟩;obtain⟨q0,q1,q2⟩:=HA3.out w3 hk3;have hk13:Kp w1 w3 Nul:=((Kp.refl w1 Nul).alloc _).trans hk3;have HK3:Hid (Kp w w3 Nul):=HK1.out.trans hk13;have HK13:Hid (Kp w1 w3 Nul):=hk13;have HRow3:Hid (w3.ownsRow (w.heap.size+1+1+1) 57 2 v acc.length (flatK encA 2 acc.toArray).toList):=j5n HRow1.out hk13 (fun i _ e=>e);have HB4:Hid (Blk (w3.alloc (.cells #[.int .i64 c,.int .i64 s] 57)) w3.heap.size [.int .i64 c,.int .i64 s] 57):=Blk.new w3 [.int .i64 c,.int .i64 s] _;have HRow4:Hid ((w3.alloc (.cells #[.int .i64 c,.int .i64 s] 57)).ownsRow (w.heap.size+1+1+1) 57 2 v acc.length (flatK encA 2 acc.toArray).toList):=HRow3.out.alloc _;have HLEN:Hid (acc.length<=4096):=by show _<=_;have:=HF.out.un.len;have:=HLL.out;omega
   have HB30:=HB0.out.kp hk13 (fun x=>x);have HB3':Hid (Blk w3 w.heap.size [.pointer (some ⟨g,0,none⟩)] 23/\Blk w3 (w.heap.size+1) [.int .i64 1,.int .i64 1,.int .i64 256,.int .i64 4096] 134/\Blk w3 (w.heap.size+1+1) [v] 227):=⟨HB30,HB1.out.kp hk13 (fun x=>x),HB2.out.kp hk13 (fun x=>x)⟩;clear hk3 hk13 HA3 HRow1 HB0 HB1 HB2 HB30 d0 d1 d2 d3;go_wp2_with (at_builtin;refine wpList_append_own _ rfl _ _ 227 rfl (w.heap.size+1+1+1) 57 i0 _ 2 16 Tryz.underlying227 hi hz0 hz1 hz2 rfl (by decide) _ _ _ rfl HRow4.out ⟨w3.heap.size,0,none⟩ 1 1 (encA (c,s)) rfl ?qc1 ?qc2 ?qc3 ?qc4 ?qc5 ?qc6 ?_)
   case qc1=>rfl
   case qc2=>
    intro j u hj;first
    | exact hj
    | (rw[Addr.add_lit,Nat.zero_add];exact HB4.out.at'.trans hj)
   case qc3=>exact j4D _
   case qc4=>have:=HLEN.out;unfold maxLen;omega
   case qc5=>have:=HLEN.out;omega
   case qc6=>rw[World.size_alloc];have:=HB3'.out.2.2.lt;omega
   intro v5 w5 hrow5 hg5 hnil5;have hob:=jBW HRow4.out;have k45:=Kp.of_grown (S:=fun i=>v.ownBlock=some i) hg5 (fun i e=>e);have k35:Kp w3 w5 (fun i=>v.ownBlock=some i):=((Kp.refl w3 _).alloc _).trans k45;have HB5:Hid (Blk w5 w.heap.size [.pointer (some ⟨g,0,none⟩)] 23/\Blk w5 (w.heap.size+1) [.int .i64 1,.int .i64 1,.int .i64 256,.int .i64 4096] 134/\Blk w5 (w.heap.size+1+1) [v] 227):=⟨HB3'.out.1.kp k35 (fun e=>by have:=hob _ e;omega),HB3'.out.2.1.kp k35 (fun e=>by have:=hob _ e;omega),HB3'.out.2.2.kp k35 (fun e=>by have:=hob _ e;omega)⟩;have HK35:Hid (Kp w3 w5 (fun i=>v.ownBlock=some i)):=k35;have HOB:Hid (∀i,v.ownBlock=some i->w.heap.size+1+1+1<=i):=hob;have HRow5:Hid (w5.ownsRow (w.heap.size+1+1+1) 57 2 v5 (acc.length+1) ((flatK encA 2 acc.toArray).toList++encA (c,s))):=hrow5;have O5:Hid (v5.oneCell'=true):=jDB hrow5
   clear hrow5 hg5 hnil5 k45 k35 hob HB4 HRow4 HB3';go_wp2_with (first
    | (refine j0u rfl 227 (.tmp 5) (.tmp 42) rfl (w.heap.size+1+1) rfl v5 rfl O5.out 227 v HB5.out.2.2 (by kernel_rfl) ?_;intro w6 hb6 hk6)
    | fail)
   have k36:Kp w3 w6 (fun i=>v.ownBlock=some i∨i=w.heap.size+1+1):=(HK35.out.mono (fun i _ e=>.inl e)).trans' hk6 (fun i _ e=>.inr e);have hr2:=HAr.out;have hr1:=HG1.out.lt;have hb3:=HK13.out.size;have HK6:Hid (Kp w w6 Nul):=HK3.out.trans' k36 (fun i hi e=>by
    rcases e with e|e
    ·have:=HOB.out i e;omega
    ·omega)
   have k16:=HK13.out.of_nul.trans k36;have b16:Below w.heap.size w1 w6:=⟨k16.os,k16.tape,k16.output,k16.size,fun i hi=>k16.block i (by have:=HK1.out.size;omega) (fun e=>by
    rcases e with e|e
    ·have:=HOB.out i e;omega
    ·omega)⟩
   have r16:w6.heap[r2]? = w1.heap[r2]?:=k16.block r2 hr1 (fun e=>by
    rcases e with e|e
    ·exact HNE.out e
    ·omega)
   have hrow6:w6.ownsRow (w.heap.size+1+1+1) 57 2 v5 (acc.length+1) ((flatK encA 2 acc.toArray).toList++encA (c,s)):=j5n HRow5.out hk6 (fun i hi e=>by have:i=w.heap.size+1+1:=e;omega);have HF6:Hid (Fi w g mv r2 L v5 w6 (rem.filter (fun x=>decide (x.1≠(c,s)))) (acc++[(c,s)])):=by
    refine⟨HF.out.un.take HMEM.out trivial HG.out.once (fun h=>h) (HG1.out.keep b16 r16) (jD9 hrow6 (by omega)) HK6.out,?_,HB5.out.1.kp hk6 (fun e=>by have:w.heap.size=w.heap.size+1+1:=e;omega),HB5.out.2.1.kp hk6 (fun e=>by have:w.heap.size+1=w.heap.size+1+1:=e;omega),hb6⟩;rw[j4P,List.length_append];exact hrow6
   have HME:Hid (glen w6 mv r2<glen wr mv r2):=(by show _<_;rw[HG1.out.glen b16 r16];exact HLT.out);clear k36 hr2 hr1 hb3 k16 b16 r16 hrow6 hb6 hk6;go_wp2_with fail;go_roundw
   case rel=>exact⟨_,_,_,_,_,_,_,_,_,_,_,_,⟨_,_,_,HF6.out⟩,rfl⟩
   case measure=>exact HME.out
theorem jAk (n:Nat)(hn:n<=1048576):∃cs:Array Value,cs.size=n*23 /\
 ∀w:World,(Instr.makeSlice 22 (.int .i64 (n:Int)) (.int .i64 (n:Int))).run Tryz.prog w=.ok (.slice (some ⟨w.heap.size,0,none⟩) n n) (w.alloc (.cells cs 68)):=by
 obtain⟨i,hi,hz,hs,hb⟩:=j4d;have:=fun w=>run_make (P:=Tryz.prog) w 22 68 i _ Tryz.underlying22 hi hz .i64 .i64 n n (by omega) (Int.le_refl _) (by rw[hb];omega) (by omega)
 simp only[Int.toNat_natCast] at this;exact⟨_,by rw[size_madeCells,hs],this⟩
theorem jAV {w:World}{F:Nat->Prop}{g:Nat}{L:List Cc}(h:j9 w F g L)(gL:∀x∈L,Gd x.2){c s:Int}(hc:I64 c)(hs:I64 s){mv:Option Nat}(hb:Blk w g [.map mv] 124):
 ∃a sa b,Lk w g c s mv (a.val sa) b/\NdIn w F sa a.t/\a.v.x<18446744073709551616/\a.t.ok/\a.t.size<=1048576/\cpC a=a/\((b=true/\((c,s),a)∈L)∨(b=false/\a=ct0/\sa=.slice none 0 0/\∀a',((c,s),a')∉L)):=by
 obtain⟨mv',v,b,q1,q2⟩:=j2Q h hc hs;have e:mv'=mv:=by
  have q:=q1.cell.symm.trans hb
  simpa using q
 subst e;rcases q2 with ⟨rfl,ct,sl,h1,rfl,h3⟩|⟨rfl,rfl,h2⟩
 ·have hgd:=gL _ h1;exact⟨ct,sl,true,q1,h3,hgd.x,hgd.ok,hgd.size,hgd.cp,.inl ⟨rfl,h1⟩⟩
 ·refine⟨ct0,.slice none 0 0,false,q1,j3J w _,by decide,j3K,by show zNd.size<=_;rw[j72];decide,?_,.inr ⟨rfl,rfl,rfl,h2⟩⟩;unfold cpC ct0;simp only[j3n]
  rfl
structure WiR (w w':World) (F:Nat->Prop) (L:List Cc) (b:Nat) (ys:List (Cc×Value)):Prop where
 low:w.heap.size<=b
 rng:∀i y,ys[i]? = some y->w'.rangeAt b (i*23) (j6 y.1 y.2)
 strict:D7 (ys.map (·.1.1))
 mem:∀x,x∈ys.map (·.1)↔x∈L
 tree:∀y∈ys,NdIn w' F y.2 y.1.2.t
 kp:Kp w w' Nul
theorem j1T {w w':World}{S:Nat->Prop}{b o:Nat}{cs:List Value}(h:w.rangeAt b o cs)(k:Kp w w' S)(hb:¬S b):w'.rangeAt b o cs:=fun j v hj=>by
 have h1:=h j v hj;have e:=k.block b (G7 h1) hb;simp only[World.cell?] at h1 ⊢;rw[e];exact h1
theorem jC0 {α:Type}(P:α->List Value)(hP:∀y,(P y).length=23){X W6:World}{b q:Nat}{ys:List α}{y0:α}(hW:X.setCells b (q*23) (P y0)=W6)(hl:ys.length=q)(ht:X.there b (q*23) 23)(h:∀(i:Nat) y,ys[i]? = some y->X.rangeAt b (i*23) (P y)):
 ∀(i:Nat) y,(ys++[y0])[i]? = some y->W6.rangeAt b (i*23) (P y):=fun i y hy=>by
 have hle:=(List.getElem?_eq_some_iff.1 hy).1;rw[List.length_append,List.length_singleton,hl] at hle;subst hW;rcases Nat.lt_or_ge i q with c' | c'
 ·rw[List.getElem?_append_left (by rw[hl];exact c')] at hy;exact World.rangeAt_setCells_apart (h i y hy) _ _ _ (.inr (.inl (by rw[hP];omega)))
 ·have e:i=q:=by omega
  subst e;rw[List.getElem?_append_right (by rw[hl];exact Nat.le_refl _),hl,Nat.sub_self] at hy;have e2:y=y0:=by simpa using hy.symm
  subst e2;exact World.rangeAt_setCells_same _ _ _ _ (by rw[hP];exact ht)
theorem jCO {w:World}{b o:Nat}{cs:List Value}(h:w.rangeAt b o cs)(ob:Obj):(w.alloc ob).drew.rangeAt b o cs:=j1T h (((Kp.refl w Nul).alloc ob).drew) (fun x=>x)
theorem jEP {w W6:World}{b o n o':Nat}{vs:List Value}{ob:Obj}(h:w.there b o n)(hW:(w.alloc ob).drew.setCells b o' vs=W6):W6.there b o n:=by
 subst hW;exact World.there_setCells ((World.there_drew _ _ _ _).2 (World.there_alloc h ob)) _ _ _
theorem jEv (g:Nat)(F:Nat->Prop)(L:List Cc)(w:World)(hg:GI 0 w g L)(hF:j9 w F g L)(gL:∀x∈L,Gd x.2)(hv:∀x∈L,vC x.1.1 x.1.2=true)(lL:L.length<=4096):
 Calls Tryz.prog 124 #[.pointer (some ⟨g,0,none⟩),.agg #[.int .i64 1,.int .i64 1,.int .i64 256,.int .i64 4096]] w fun e w'=>∃b ys,e=.returned (.slice (some ⟨b,0,none⟩) ys.length ys.length)/\WiR w w' F L b ys:=by
 obtain⟨mv,bg⟩:=hg.blk;have k1:Kp w (w.alloc (.cells #[.int .i64 1,.int .i64 1,.int .i64 256,.int .i64 4096] 134)) Nul:=(Kp.refl w Nul).alloc _;have HFil:Hid (Calls Tryz.prog 169 #[.pointer (some ⟨g,0,none⟩),.agg #[.int .i64 1,.int .i64 1,.int .i64 256,.int .i64 4096]] (w.alloc (.cells #[.int .i64 1,.int .i64 1,.int .i64 256,.int .i64 4096] 134)) fun e w'=>∃U v',e=.returned v'/\X0 w.heap.size w' v' U/\D7 U/\(∀x,x∈U↔∃a,(x,a)∈L)/\Kp w w' Nul):=
  (j9M g L _ (hg.kp k1) hv lL).mono (by
   rintro e w' ⟨U,v',h1,h2,h3,h4,h5⟩;exact⟨U,v',h1,h2.down k1.size,h3,h4,k1.trans h5⟩)
 have HI:Hid (∀x∈L,I64 x.1.1/\I64 x.1.2):=by
  obtain⟨_,⟨_,rfl⟩|⟨m,D,_,_,_,_,hm⟩⟩:=hg
  ·intro x hx;simp at hx
  ·exact hm.rng
 have HLook:Hid (∀c s,(∃a,((c,s),a)∈L)->∃a sa,((c,s),a)∈L/\NdIn w F sa a.t/\∀wq,Kp w wq Nul->wq.cell? ⟨g,0,none⟩=some (.map mv)/\(Instr.lookup 122 (.map mv) (.agg #[.int .i64 c,.int .i64 s]) false).run Tryz.prog wq=.ok (a.val sa) wq):=fun c s ⟨a0,h0⟩=>by
  have hi2:=HI.out _ h0;obtain⟨a,sa,bb,hlk,hinA,hax,hao,_,_,hcase⟩:=jAV hF gL hi2.1 hi2.2 bg;rcases hcase with ⟨_,hm⟩|⟨_,_,_,hno⟩
  ·exact⟨a,sa,hm,hinA,fun wq k=>⟨(bg.kp k (fun x=>x)).cell rfl,(j2P hlk k).one wq (fun _ _=>rfl)⟩⟩
  ·exact absurd h0 (hno a0)
 have HONCE:Hid (L.Pairwise (fun x y=>x.1≠y.1)):=hg.once;have HUL:Hid (∀U,D7 U->(∀x,x∈U↔∃a,(x,a)∈L)->U.length<=4096):=fun U h1 h2=>by
  have hnd:U.Nodup:=j6L h1;have hsub:∀x∈U,x∈(L.map (·.1)):=fun x hx=>by
   obtain⟨a,h⟩:=(h2 x).1 hx;exact List.mem_map.2 ⟨_,h,rfl⟩
  have:=j2g _ _ hnd hsub;rw[List.length_map] at this;omega
 clear hg hF gL hv lL bg k1;go_enter Tryz.func124,Tryz.ntmps124;go_wp2_with fail;refine HFil.out.mono ?_;rintro e w2 ⟨U,v2,rfl,⟨ua,uc,rfl,hcell⟩,hst,hmem,hk2⟩;have HK2:Hid (Kp w w2 Nul):=hk2;have HST:Hid (D7 U):=hst;have HMEM:Hid (∀x,x∈U↔∃a,(x,a)∈L):=hmem;have HLU:Hid (U.length<=4096):=HUL.out U hst hmem;have HCell:Hid ((ua=none/\U=[])∨∃b,ua=some ⟨b,0,none⟩/\w.heap.size<=b/\V9 w2 b 0 U):=hcell;clear hk2 hst hmem hcell HFil HUL;generalize hn:U.length=n at *;have HN:Hid (U.length=n):=hn;obtain⟨cs,hcs,hmk⟩:=jAk n (by have:=HLU.out;omega);have HCS:Hid (cs.size=n*23):=hcs;clear hn hcs;go_wp2_with fail;clear hmk;have hW:∃W,w2.alloc (.cells cs 68)=W:=⟨_,rfl⟩;obtain⟨W,hW⟩:=hW;rw[hW];have HT:Hid (W.there w2.heap.size 0 (n*23)):=by rw[<- hW];exact I1 (heap_alloc_new w2 _) 0 (n*23) (by rw[HCS.out];omega)
 have HKW:Hid (Kp w2 W Nul):=by rw[<- hW];exact(Kp.refl w2 Nul).alloc _
 have HBL:Hid (w2.heap.size<W.heap.size):=by rw[<- hW,World.size_alloc];exact Nat.lt_succ_self _
 clear hW;obtain⟨b,hb⟩:∃b,w2.heap.size=b:=⟨_,rfl⟩;rw[hb] at HT HBL;have HB:Hid (w2.heap.size=b):=hb;rw[hb];clear hb HCS;go_loopw[17] (fun i wr=>∃(q:Nat) (ys:List (Cc×Value)),q<=n/\i=.int .i64 q/\ys.map (·.1.1)=U.take q/\(∀y∈ys,y.1∈L)/\(∀y∈ys,NdIn w F y.2 y.1.2.t)/\(∀i y,ys[i]? = some y->wr.rangeAt b (i*23) (j6 y.1 y.2))/\wr.there b 0 (n*23)/\Kp W wr (fun i=>i=b)) (fun i _=>n-(RowKit.intOf i).toNat)
 case atStart=>exact⟨0,[],Nat.zero_le _,rfl,rfl,fun y h=>by simp at h,fun y h=>by simp at h,fun i y h=>by simp at h,HT.out,Kp.refl _ _⟩
 case round=>
  obtain⟨q,ys,hq,rfl,hmap,hin,htree,hrng,hth,hkq⟩:=hrel;have HMAP:Hid (ys.map (·.1.1)=U.take q):=hmap;have HINL:Hid (∀y∈ys,y.1∈L):=hin;have HTREE:Hid (∀y∈ys,NdIn w F y.2 y.1.2.t):=htree;have HRNG:Hid (∀i y,ys[i]? = some y->wr.rangeAt b (i*23) (j6 y.1 y.2)):=hrng;have HTH:Hid (wr.there b 0 (n*23)):=hth;have HKQ:Hid (Kp W wr (fun i=>i=b)):=hkq;have hysl:ys.length=min q n:=by rw[<- HN.out];have:=congrArg List.length hmap;simpa using this
  have HYL:Hid (ys.length=q):=by show _=_;omega
  have HKR:Hid (Kp w wr Nul):=(HK2.out.trans HKW.out).trans' hkq (fun i hi e=>by have h1:=HK2.out.size;have h2:=HB.out;have:i=b:=e;omega);clear hmap hin htree hrng hth hkq hysl;by_cases hlt:q<n
  ·have hqt:q<U.length:=(by rw[HN.out];exact hlt);obtain⟨bu,rfl,hbw,hca⟩:∃b,ua=some ⟨b,0,none⟩/\w.heap.size<=b/\V9 w2 b 0 U:=by
    rcases HCell.out with ⟨_,h⟩|h
    ·rw[h] at hqt;simp at hqt
    ·exact h
   have hbu:bu<b:=by
    have:=G7 (hca q U[q] (List.getElem?_eq_getElem hqt)).1;rw[HB.out] at this;exact this
   obtain⟨x0,x1⟩:=((hca.kp HKW.out (fun x=>x)).kp HKQ.out (fun e=>by have:bu=b:=e;omega)) q U[q] (List.getElem?_eq_getElem hqt);obtain⟨⟨c,s⟩,hcs⟩:∃cs,U[q]=cs:=⟨_,rfl⟩;rw[hcs] at x0 x1;simp only at x0 x1;obtain⟨a,sa,hmL,htr,hlk⟩:=HLook.out c s ((HMEM.out _).1 (hcs ▸ List.getElem_mem hqt));have HML:Hid (((c,s),a)∈L):=hmL;have HTR:Hid (NdIn w F sa a.t):=htr;have HTK:Hid (U.take (q+1)=U.take q++[(c,s)]):=(by show _=_;rw[List.take_add_one,List.getElem?_eq_getElem hqt,hcs];rfl);have hkb:(q:Int)+1<=9223372036854775807:=(by have:=HLU.out;omega);have hq0:(0:Int)<=(q:Int):=(by omega);have hqn:(q:Int)<(n:Int):=(by omega);have x0':wr.cell? ⟨bu,q*2,none⟩=some (.int .i64 c):=(by rw[Nat.zero_add] at x0;exact x0);have x1':wr.cell? ⟨bu,q*2+1,none⟩=some (.int .i64 s):=(by rw[Nat.zero_add] at x1;exact x1);have hA:Blk (wr.alloc (.cells #[.int .i64 c,.int .i64 s] 57)) wr.heap.size [.int .i64 c,.int .i64 s] 57:=Blk.new wr _ _
   have hgc:=hlk _ ((HKR.out.alloc (.cells #[.int .i64 c,.int .i64 s] 57)).drew);have HA:Hid (∀wq,Kp (wr.alloc (.cells #[.int .i64 c,.int .i64 s] 57)) wq (fun i=>i=b)->wq.cell? ⟨wr.heap.size,0,none⟩=some (.int .i64 c)/\wq.cell? ⟨wr.heap.size,1,none⟩=some (.int .i64 s)/\wq.cell? ⟨g,0,none⟩=some (.map mv)/\(Instr.lookup 122 (.map mv) (.agg #[.int .i64 c,.int .i64 s]) false).run Tryz.prog wq=.ok (a.val sa) wq):=fun wq k=>by
    have hne:¬(wr.heap.size=b):=(fun e=>by have h1:=HKQ.out.size;have h2:=HBL.out;omega);have hkw:Kp w wq Nul:=(HKR.out.alloc _).trans' k (fun i hi e=>by have h1:=HK2.out.size;have h2:=HB.out;have:i=b:=e;omega);exact⟨(hA.kp k hne).cell rfl,(hA.kp k hne).cell rfl,(hlk wq hkw).1,(hlk wq hkw).2⟩
   clear hca hcs hqt x0 x1 hbw hA hlk hmL htr hbu hgc;go_wp2_with fail;clear x0' x1';refine wp_region_noPanic ?_;refine F5 (fun w':World=>w'.cell? ⟨wr.heap.size,0,none⟩=some (.int .i64 c)/\w'.cell? ⟨wr.heap.size,1,none⟩=some (.int .i64 s)/\w'.cell? ⟨g,0,none⟩=some (.map mv)/\(Instr.lookup 122 (.map mv) (.agg #[.int .i64 c,.int .i64 s]) false).run Tryz.prog w'=.ok (a.val sa) w') (by kernel_rfl) (HA.out _ ((Kp.refl _ _).drew)) (fun hHeld=>?_);refine j3 (i:=0) (v:=?_) (some 22) rfl rfl (by kernel_rfl) (fun _ _ _ h=>h) (Or.inl ⟨by rfl,?_⟩) hHeld ?_;rotate_left
   ·intro w' hSw;obtain⟨s0,s1,s2,s3⟩:=hSw;go_simp;try with_reducible rfl
   simp only[Act.put,Sz0,Sz1,Sz2];refine j3 (i:=1) (v:=?_) (some 23) rfl rfl (by kernel_rfl) (fun _ _ _ h=>h) (Or.inl ⟨by rfl,?_⟩) hHeld ?_;rotate_left
   ·intro w' hSw;obtain⟨s0,s1,s2,s3⟩:=hSw;go_simp;try with_reducible rfl
   simp only[Act.put,Sz0,Sz1,Sz2];refine j3 (i:=2) (v:=?_) (some 24) rfl rfl (by kernel_rfl) (fun _ _ _ h=>h) (Or.inl ⟨by rfl,?_⟩) hHeld ?_;rotate_left
   ·intro w' hSw;obtain⟨s0,s1,s2,s3⟩:=hSw;go_simp;try with_reducible rfl
   simp only[Act.put,Sz0,Sz1,Sz2];refine j3 (i:=3) (v:=?_) (some 25) rfl rfl (by kernel_rfl) (fun _ _ _ h=>h) (Or.inl ⟨by rfl,?_⟩) hHeld ?_;rotate_left
   ·intro w' hSw;obtain⟨s0,s1,s2,s3⟩:=hSw;go_simp;try with_reducible rfl
   simp only[Act.put,Sz0,Sz1,Sz2];refine j3 (i:=4) (v:=?_) (some 26) rfl rfl (by kernel_rfl) (fun _ _ _ h=>h) (Or.inl ⟨by rfl,?_⟩) hHeld ?_;rotate_left
   ·intro w' hSw;obtain⟨s0,s1,s2,s3⟩:=hSw;go_simp;try with_reducible rfl
   simp only[Act.put,Sz0,Sz1,Sz2];refine j3 (i:=5) (v:=?_) (some 27) rfl rfl (by kernel_rfl) (fun _ _ _ h=>h) (Or.inl ⟨by rfl,?_⟩) hHeld ?_;rotate_left
   ·intro w' hSw;obtain⟨s0,s1,s2,s3⟩:=hSw;go_simp;try with_reducible rfl
   simp only[Act.put,Sz0,Sz1,Sz2];refine j3 (i:=6) (v:=?_) (some 28) rfl rfl (by kernel_rfl) (fun _ _ _ h=>h) (Or.inl ⟨by rfl,?_⟩) hHeld ?_;rotate_left
   ·intro w' hSw;obtain⟨s0,s1,s2,s3⟩:=hSw;go_simp;try with_reducible rfl
   simp only[Act.put,Sz0,Sz1,Sz2];refine j3 (i:=7) (v:=?_) (some 29) rfl rfl (by kernel_rfl) (fun _ _ _ h=>h) (Or.inl ⟨by rfl,?_⟩) hHeld ?_;rotate_left
   ·intro w' hSw;obtain⟨s0,s1,s2,s3⟩:=hSw;go_simp;try with_reducible rfl
   simp only[Act.put,Sz0,Sz1,Sz2];refine j3 (i:=8) (v:=?_) (some 30) rfl rfl (by kernel_rfl) (fun _ _ _ h=>h) (Or.inl ⟨by rfl,?_⟩) hHeld ?_;rotate_left
   ·intro w' hSw;obtain⟨s0,s1,s2,s3⟩:=hSw;go_simp;try with_reducible rfl
   simp only[Act.put,Sz0,Sz1,Sz2];refine j3 (i:=9) (v:=?_) (some 31) rfl rfl (by kernel_rfl) (fun _ _ _ h=>h) (Or.inl ⟨by rfl,?_⟩) hHeld ?_;rotate_left
   ·intro w' hSw;obtain⟨s0,s1,s2,s3⟩:=hSw;go_simp;try with_reducible rfl
   simp only[Act.put,Sz0,Sz1,Sz2];refine j3 (i:=10) (v:=?_) (some 32) rfl rfl (by kernel_rfl) (fun _ _ _ h=>h) (Or.inl ⟨by rfl,?_⟩) hHeld ?_;rotate_left
   ·intro w' hSw;obtain⟨s0,s1,s2,s3⟩:=hSw;go_simp;try with_reducible rfl
   simp only[Act.put,Sz0,Sz1,Sz2];refine D9 (i:=11) (by kernel_rfl) rfl rfl (fun K hK=>?_);have T5:Hid ((wr.alloc (.cells #[.int .i64 c,.int .i64 s] 57)).drew.there b (q*23) 23):=by
    have h1:=World.there_alloc HTH.out (.cells #[.int .i64 c,.int .i64 s] 57);intro j hj;have:=h1 (q*23+j) (by omega);rw[Nat.zero_add] at this;exact this
   have O5:Hid ((j6 ((c,s),a) sa).toArray.all (·.oneCell')=true):=all_oneCell_toArray (j0D _ HTR.out.one);refine wp_store_mid 68 (.tmp 32) (.tmp 31) rfl b (q*23) (j6 ((c,s),a) sa).toArray rfl rfl T5.out j0c O5.out ?_;obtain⟨W6,hW6⟩:∃W6,(wr.alloc (.cells #[.int .i64 c,.int .i64 s] 57)).drew.setCells b (q*23) (j6 ((c,s),a) sa)=W6:=⟨_,rfl⟩;have k6:Kp (wr.alloc (.cells #[.int .i64 c,.int .i64 s] 57)) W6 (fun i=>i=b):=(Kp.refl _ _).drew.trans (hW6 ▸ Q1 (fun i=>i=b) rfl _ _ _);have HK6:Hid (Kp W W6 (fun i=>i=b)):=(HKQ.out.alloc _).trans k6;have HR6:Hid (∀i y,(ys++[(((c,s),a),sa)])[i]? = some y->W6.rangeAt b (i*23) (j6 y.1 y.2)):=jC0 (fun y:Cc×Value=>j6 y.1 y.2) (fun y=>j0C y.1 y.2) hW6 HYL.out T5.out (fun i y hy=>jCO (HRNG.out i y hy) _);have HT6:Hid (W6.there b 0 (n*23)):=jEP HTH.out hW6;have HM6:Hid ((ys++[(((c,s),a),sa)]).map (·.1.1)=U.take (q+1)):=by show _=_;rw[List.map_append,HMAP.out,HTK.out];rfl
   have HL6:Hid (∀y∈ys++[(((c,s),a),sa)],y.1∈L):=fun y hy=>by
    rcases List.mem_append.1 hy with hy|hy
    ·exact HINL.out y hy
    ·rw[List.mem_singleton] at hy;subst hy;exact HML.out
   have HTR6:Hid (∀y∈ys++[(((c,s),a),sa)],NdIn w F y.2 y.1.2.t):=fun y hy=>by
    rcases List.mem_append.1 hy with hy|hy
    ·exact HTREE.out y hy
    ·rw[List.mem_singleton] at hy;subst hy;exact HTR.out
   have hS6:=HA.out W6 k6;show K _ ((wr.alloc (.cells #[.int .i64 c,.int .i64 s] 57)).drew.setCells b (q*23) (j6 ((c,s),a) sa));rw[hW6];refine hK.out _ _ hS6 (fun _=>?_);clear hK K k6 hW6 hS6 T5 O5 HA hHeld;refine wpAnyH_done (by kernel_rfl) ?_ _;refine NoPanic.normal ?_;go_wp2_with fail;go_roundw
   case rel=>exact⟨q+1,_,by omega,by go_num,HM6.out,HL6.out,HTR6.out,HR6.out,HT6.out,HK6.out⟩
   case measure=>simp only[RowKit.intOf];omega
  ·have hqe:q=n:=(by omega);subst hqe;have hqn:¬((q:Int)<(q:Int)):=(by omega);have hall:U.take q=U:=(by rw[List.take_of_length_le (by rw[HN.out];exact Nat.le_refl _)]);have HEND:Hid (WiR w wr F L b ys):=by
    refine⟨by have:=HK2.out.size;have:=HB.out;omega,HRNG.out,?_,fun x=>⟨fun h=>?_,fun h=>?_⟩,fun y hy=>(HTREE.out y hy).kp HKR.out (fun _ _ x=>x),HKR.out⟩
    ·rw[HMAP.out,hall];exact HST.out
    ·obtain⟨y,hy,rfl⟩:=List.mem_map.1 h;exact HINL.out y hy
    ·have h1:x.1∈ys.map (·.1.1):=(by rw[HMAP.out,hall];exact(HMEM.out x.1).2 ⟨x.2,h⟩);obtain⟨y,hy,e⟩:=List.mem_map.1 h1;have h2:=HINL.out y hy;refine List.mem_map.2 ⟨y,hy,Prod.ext e ?_⟩;have h3:(x.1,y.1.2)∈L:=(by rw[<- e];exact h2);exact(j0g HONCE.out h3 h)
   have HYQ:Hid (ys.length=q):=HYL.out;clear HRNG HMAP HTREE HINL hall;go_wp2_with fail;go_ret;exact⟨b,ys,by rw[HYQ.out];rfl,HEND.out⟩
end
section
open Go.RowKit Go.Maps Go.Sort Go.Lib Go.Shelf
attribute [local go_sem] Oper.semAt_some
section
variable {n:Nat} {P:Program} {md:Region.Mode} {ops:Array Oper} {Q:Exit->Act->World->Prop} {fuel:Nat} {listed:Array Bool} {a:Act} {w w':World}
theorem Q3 {i:Nat}{o:Oper}{v:Value}(d:Option Tmp)(ho:ops[i]? = some o)(hd:o.dst=d)(hg:o.guard=none)(hab:o.about P w a.eval=none)(hpl:∀c,o.op ≠ .defer c)(he:(execOp a.eval o).run P w=.ok (.value v) w')
 (h:wpAnyIn Fence.wide n P md ops Q fuel (listed.setIfInBounds i true) (a.put d v) w'):wpOpIn Fence.wide n P ops Q i (wpAnyIn Fence.wide n P md ops Q fuel (listed.setIfInBounds i true)) a w:=by
 subst hd;refine wpOpIn_step ho fun K hK=>?_
 simp only[Region.wanted,hg,if_true];unfold Oper.wpIn;refine⟨by simp[hab],?_⟩;rw[Oper.semAt_plain Fence.wide _ _ (fun c hc'=>hpl c hc'),he];exact hK _ _ h
theorem j1q {i:Nat}{o:Oper}{f:FuncId}{args:Array Value}(d:Option Tmp)(ho:ops[i]? = some o)(hd:o.dst=d)(hg:o.guard=none)(hn:1<=n)(hpl:∀c,o.op ≠ .defer c)(he:(execOp a.eval o).run P w=.ok (.enter f args) w')
 (h:Calls P f args w' fun e w2=>∃v,e=.returned v/\wpAnyIn Fence.wide n P md ops Q fuel (listed.setIfInBounds i true) (a.put d v) w2):wpOpIn Fence.wide n P ops Q i (wpAnyIn Fence.wide n P md ops Q fuel (listed.setIfInBounds i true)) a w:=by
 subst hd;refine wpOpIn_step ho fun K hK=>?_
 simp only[Region.wanted,hg,if_true];unfold Oper.wpIn;refine⟨fun _ _=>trivial,?_⟩;rw[Oper.semAt_plain Fence.wide _ _ (fun c hc'=>hpl c hc'),he];refine⟨fun _=>hn,(callsIn_wide.2 h).mono ?_⟩;rintro e w2 ⟨v,rfl,h2⟩;exact hK _ _ h2
theorem j1r {i:Nat}{o:Oper}{l f:Nat}{tms:Array Value}{asg bod:Code}(d:Option Tmp)(ho:ops[i]? = some o)(hd:o.dst=d)(hg:o.guard=none)(hn:1<=n)(hpl:∀c,o.op ≠ .defer c)(he:(execOp a.eval o).run P w=.ok (.round l f tms asg bod) w')
 (h:RoundIn Fence.wide (n-1) P l f tms asg bod w' fun e w2=>∃v,e=.returned v/\wpAnyIn Fence.wide n P md ops Q fuel (listed.setIfInBounds i true) (a.put d v) w2):wpOpIn Fence.wide n P ops Q i (wpAnyIn Fence.wide n P md ops Q fuel (listed.setIfInBounds i true)) a w:=by
 subst hd;refine wpOpIn_step ho fun K hK=>?_
 simp only[Region.wanted,hg,if_true];unfold Oper.wpIn;refine⟨fun _ _=>trivial,?_⟩;rw[Oper.semAt_plain Fence.wide _ _ (fun c hc'=>hpl c hc'),he];refine⟨fun _=>hn,h.mono ?_⟩;rintro e w2 ⟨v,rfl,h2⟩;exact hK _ _ h2
end
end
section
open Go.RowKit Go.Maps Go.Sort Go.Lib Go.Shelf
attribute [local go_sem] Oper.semAt_some
theorem jAR {F:Fence}{n:Nat}{ops:Array Oper}{rest:List Oper}{o:Oper}{a:Act}{w:World}{Q:Exit->Act->World->Prop}(hgd:Region.wanted o (yielded ops a.tmps)=true)(x:Operand)(ho:o.op=.load 68 x)(b p:Nat)(hx:a.eval x=.pointer (some ⟨b,p,none⟩))(cs:List Value)(hc:w.rangeAt b p cs)(hcs:cs.length=23)
 (h:wpListIn F n Tryz.prog ops Q rest (a.put o.dst (.agg cs.toArray)) w):wpListIn F n Tryz.prog ops Q (o::rest) a w:=by
 refine j6n hgd (by simp[Oper.about,ho]) (fun c hc'=>by rw[ho] at hc';cases hc') ?_ h;unfold execOp;simp only[ho,hx,Instr.loadAt,Instr.sureAddr,Sem.run_bind,Sem.run_pure,Result.andThen_ok,run_loadVar_mid w b p 68 cs _ hc Tryz.underlying68 rfl (by rw[hcs];exact j0c)]
theorem j34 {F:Fence}{n:Nat}{ops:Array Oper}{rest:List Oper}{o:Oper}{a:Act}{Q:Exit->Act->World->Prop}(hgd:Region.wanted o (yielded ops a.tmps)=true)(ty:TypeId)(x y:Operand)(ho:o.op=.store ty x y)(w:World)(z cells:Array Value)(N:Nat)(hN:N=w.heap.size)(hx:a.eval x=.pointer (some ⟨N,0,none⟩))(hy:a.eval y=.agg cells)
 (hz:z.size=cells.size) (hi:(Tryz.prog.info? ty).map (·.size)=some cells.size) (h1:cells.all (·.oneCell')=true)
 (h:wpListIn F n Tryz.prog ops Q rest (a.put o.dst undef) (w.alloc (.cells cells ty))):wpListIn F n Tryz.prog ops Q (o::rest) a (w.alloc (.cells z ty)):=by
 subst hN;have ht:(w.alloc (.cells z ty)).there w.heap.size 0 cells.size:=by
  intro j hj;constructor
  ·rw[World.cell?_alloc_at _ _ _ _ rfl,Array.getElem?_eq_getElem (by omega)];rfl
  ·rw[frozen?_alloc_cells,j0Y]
 have hs:=run_storeVar_mid (P:=Tryz.prog) (w.alloc (.cells z ty)) w.heap.size 0 ty cells ht hi h1;refine j3B hgd (by simp[Oper.about,ho]) (fun c hc'=>by rw[ho] at hc';cases hc') ?_ h;unfold execOp;simp only[ho,hx,hy,Instr.storeAt,Instr.sureAddr,Sem.run_bind,Sem.run_pure,Result.andThen_ok,hs];rw[j2z w ty z cells hz]
theorem jDo {K K':List Cc}(h:D7 (K.map (·.1)))(h':D7 (K'.map (·.1)))(hm:∀x,x∈K↔x∈K'):K=K':=
 j6G (lt:=fun x y:Cc=>ltOf cfA x.1 y.1) (fun x=>swoA.irrefl x.1) (fun x y z=>swoA.trans x.1 y.1 z.1) (List.pairwise_map.1 h) (List.pairwise_map.1 h') hm
abbrev encP (x:Cc×Value):Array Value:=#[.agg #[.int .i64 x.1.1.1,.int .i64 x.1.1.2],.agg (x.1.2.cells x.2).toArray]
theorem j5W {F:Fence}{n:Nat}{P:Program}{id:Nat}{ops:Array Oper}{b:Bool}{Q:Exit->Act->World->Prop}{a:Act}{w:World}(h:(Code.region id ops b).wpIn F n P (NoPanic Q) a w):(Code.region id ops b).wpIn F n P Q a w:=
 wpIn_mono h NoPanic.imp
theorem j1s {n:Nat}{P:Program}{md:Region.Mode}{ops:Array Oper}{Q:Exit->Act->World->Prop}{fuel:Nat}{listed:Array Bool}{a:Act}{w:World}{i:Nat}{oi:Oper}(v:Value)(d:Option Tmp)(hi:ops[i]? = some oi)(hd:oi.dst=d)(hs:Region.noSelect ops=true)(hf:Region.free md ops listed i=true)(hr:(Region.ready md ops listed).contains i=true)
 (hQ:∀c a w,Q (.panic c) (a.put d v) w->Q (.panic c) a w) (hw:Region.wanted oi (yielded ops a.tmps)=true) (hab:∀w,oi.about P w a.eval=none) (hy:∀w,(execOp a.eval oi).run P w=.ok (.value v) w)
 (h:wpAnyIn Fence.wide n P md ops Q fuel (listed.setIfInBounds i true) (a.put d v) w):wpAnyIn Fence.wide n P md ops Q (fuel+1) listed a w:=by
 subst hd;exact wpAnyIn_take rfl hi hs hf hr hQ ⟨.inl ⟨hw,hy⟩,hab⟩ h
theorem L3 {o:Oper}{ρ:Operand->Value}{w:World}(ty:TypeId)(x:Operand)(ho:o.op=.load ty x)(b p:Nat)(hx:ρ x=.pointer (some ⟨b,p,none⟩))(cs:List Value)(d:TypeDesc)(hc:w.rangeAt b p cs)(hu:Tryz.prog.underlying ty=some d)(hd:d.isRow=true)(hi:(Tryz.prog.info? ty).map (·.size)=some cs.length):
 (execOp ρ o).run Tryz.prog w=.ok (.value (.agg cs.toArray)) w:=by
 unfold execOp;simp only[ho,hx,Instr.loadAt,Instr.sureAddr,Sem.run_bind,Sem.run_pure,Result.andThen_ok,run_loadVar_mid w b p ty cs d hc hu hd hi]
structure InR (W:World) (A b:Nat) (ys:List (Cc×Value)) (Z:Nat->Prop) (wr:World):Prop where
 nz:¬Z b
 rng:∀i y,ys[i]? = some y->wr.rangeAt b (i*23) (j6 y.1 y.2)
 tree:∀y∈ys,NdIn wr (fun i=>i<A) y.2 y.1.2.t
 size:W.heap.size<=wr.heap.size
end
section
open Go.RowKit Go.Maps Go.Sort Go.Lib Go.Shelf
attribute [local go_sem] Oper.semAt_some
abbrev encQ (x:(Cc×Value)×List Nat):Array Value:=encP x.1
abbrev wtQ (x:(Cc×Value)×List Nat):Nat->Prop:=fun i=>i∈x.2
def j0v (w:World) (K:List Cc) (k:Nat) (x:(Cc×Value)×List Nat) (Z:Nat->Prop) (W:World):Prop:=K[k]? = some x.1.1/\E6 W x.1.2 x.1.1.2.t x.2/\x.2.Nodup/\∀i∈x.2,w.heap.size+2<=i/\¬Z i
end
section
open Go.RowKit Go.Maps Go.Sort Go.Lib
theorem j9m (g:Nat)(w:World):Calls Tryz.prog 68 #[.pointer (some ⟨g,0,none⟩),.agg #[.int .i64 1,.int .i64 1,.int .i64 256,.int .i64 4096]] w fun e w'=>∃x0 x1,e=.returned (.func (.func 123) #[] #[.pointer (some ⟨x0,0,none⟩),.pointer (some ⟨x1,0,none⟩)])/\Blk w' x0 [.pointer (some ⟨g,0,none⟩)] 23/\Blk w' x1 [.int .i64 1,.int .i64 1,.int .i64 256,.int .i64 4096] 134/\Kp w w' Nul:=by
 obtain⟨W,hW⟩:∃W,(w.alloc (.cells #[.pointer (some ⟨g,0,none⟩)] 23)).alloc (.cells #[.int .i64 1,.int .i64 1,.int .i64 256,.int .i64 4096] 134)=W:=⟨_,rfl⟩;have HW:Hid ((w.alloc (.cells #[.pointer (some ⟨g,0,none⟩)] 23)).alloc (.cells #[.int .i64 1,.int .i64 1,.int .i64 256,.int .i64 4096] 134)=W):=hW;have HK:Hid (Kp w W Nul):=by show Kp w W Nul;rw[<- hW];exact((Kp.refl w Nul).alloc _).alloc _
 have HB0:Hid (Blk W w.heap.size [.pointer (some ⟨g,0,none⟩)] 23):=by show Blk _ _ _ _;rw[<- hW];exact(Blk.new w [.pointer (some ⟨g,0,none⟩)] _).alloc _
 have HB1:Hid (Blk W (w.heap.size+1) [.int .i64 1,.int .i64 1,.int .i64 256,.int .i64 4096] 134):=by
  have:=Blk.new (w.alloc (.cells #[.pointer (some ⟨g,0,none⟩)] 23)) [.int .i64 1,.int .i64 1,.int .i64 256,.int .i64 4096] 134;rw[World.size_alloc] at this;show Blk _ _ _ _;rw[<- hW];exact this
 clear hW;go_enter Tryz.func68,Tryz.ntmps68;go_wp2_with fail;rw[HW.out];go_ret;exact⟨_,_,rfl,HB0.out,HB1.out,HK.out⟩
theorem j3N (g:Nat)(w:World):Calls Tryz.prog 30 #[.pointer (some ⟨g,0,none⟩)] w fun e w'=>∃x0 x1,e=.returned (.func (.func 123) #[] #[.pointer (some ⟨x0,0,none⟩),.pointer (some ⟨x1,0,none⟩)])/\Blk w' x0 [.pointer (some ⟨g,0,none⟩)] 23/\Blk w' x1 [.int .i64 1,.int .i64 1,.int .i64 256,.int .i64 4096] 134/\Kp w w' Nul:=by
 have H:Hid (Calls Tryz.prog 68 #[.pointer (some ⟨g,0,none⟩),.agg #[.int .i64 1,.int .i64 1,.int .i64 256,.int .i64 4096]] w fun e w'=>∃x0 x1,e=.returned (.func (.func 123) #[] #[.pointer (some ⟨x0,0,none⟩),.pointer (some ⟨x1,0,none⟩)])/\Blk w' x0 [.pointer (some ⟨g,0,none⟩)] 23/\Blk w' x1 [.int .i64 1,.int .i64 1,.int .i64 256,.int .i64 4096] 134/\Kp w w' Nul):=j9m g w;go_enter Tryz.func30,Tryz.ntmps30;go_wp2_with fail;refine H.out.mono ?_;rintro e w1 ⟨x0,x1,rfl,h1,h2,h3⟩;have HE:Hid (Blk w1 x0 [.pointer (some ⟨g,0,none⟩)] 23/\Blk w1 x1 [.int .i64 1,.int .i64 1,.int .i64 256,.int .i64 4096] 134/\Kp w w1 Nul):=⟨h1,h2,h3⟩;clear h1 h2 h3 H;go_wp2_with fail;go_ret;exact⟨_,_,rfl,HE.out⟩
structure Ok17 (L:List Cc):Prop where
 gd:∀x∈L,Gd x.2
 at':∀x∈L,vC x.1.1 x.1.2=true
 len:L.length<=4096
theorem Ok17.nil:Ok17 []:=⟨fun x h=>by simp at h,fun x h=>by simp at h,by simp⟩
theorem Ok17.okC {L:List Cc}(h:Ok17 L):OkC L:=fun x hx=>⟨(h.gd x hx).x,(h.gd x hx).ok⟩
theorem Ok17.put {L:List Cc}(h:Ok17 L)(ho:L.Pairwise (fun x y=>x.1≠y.1)){c r:Int}{ct:Ct}(hx:vC c r=true)(hg:Gd ct)(hroom:L.length<4096∨∃c',((c,r),c')∈L):Ok17 (putL L (c,r) ct):=by
 refine⟨fun x hx'=>?_,fun x hx'=>?_,?_⟩
 ·rcases(Y6 x).1 hx' with rfl|h1
  ·exact hg
  ·exact h.gd x h1.1
 ·rcases(Y6 x).1 hx' with rfl|h1
  ·exact hx
  ·exact h.at' x h1.1
 ·by_cases hin:∃c',((c,r),c')∈L
  ·rw[j5A ho hin];exact h.len
  ·have hno:∀c',((c,r),c')∉L:=(fun c' q=>hin ⟨c',q⟩);rw[j5B hno];rcases hroom with h1|h1
   ·omega
   ·exact absurd h1 hin
theorem Ok17.del {L:List Cc}(h:Ok17 L)(k:Int×Int):Ok17 (delL L k):=
 ⟨fun x hx=>h.gd x ((X6 x).1 hx).1,fun x hx=>h.at' x ((X6 x).1 hx).1,Nat.le_trans (List.length_filter_le _ _) h.len⟩
structure PutR (L:List Cc) (c r:Int) (ct:Ct) (er:Int) (L':List Cc):Prop where
 ok:Ok17 L'
 put:vC c r=true->gv ct=true->ct.k≠0->(L.length<4096∨∃c',((c,r),c')∈L)->er=0/\L'=putL L (c,r) (cpC ct)
 del:vC c r=true->gv ct=true->ct.k=0->er=0/\L'=delL L (c,r)
theorem jBy (G:Nat->Prop)(g:Nat)(c r:Int)(ct:Ct)(sl:Value)(F:Nat->Prop)(L:List Cc)(w:World)(hG:j9 w G g L)(hnew:∀i,w.heap.size<=i->G i)(hL:Ok17 L)(hok:ct.t.ok)(hx:ct.v.x<18446744073709551616)(hs:ct.t.size<=1048576)(hin:NdIn w F sl ct.t)(U:VS w):
 Calls Tryz.prog 25 #[.pointer (some ⟨g,0,none⟩),.agg #[.int .i64 c,.int .i64 r],ct.val sl] w fun e w'=>∃er L',e=.returned (.int .i64 er)/\j9 w' G g L'/\PutR L c r ct er L'/\Km g w w':=by
 have h:GI 0 w g L:=j9.mono hG (fun _ _=>Nat.zero_le _);obtain⟨mv,bg⟩:=h.blk;have hval:∀V,gv ct=V->∀wq,Kp w wq Nul->Calls Tryz.prog 57 #[ct.val sl] wq fun e w'=>e=.returned (.bool V)/\Kp wq w' Nul:=fun V hV wq k=>by subst hV;exact j4U ct sl F wq hok (hin.kp k (fun _ _ x=>x)) (U.kp k)
 have hcp:∀wq,Kp w wq Nul->Calls Tryz.prog 61 #[ct.val sl] wq fun e w'=>∃sl' fp,e=.returned ((cpC ct).val sl')/\Own w' wq.heap.size sl' (cpC ct).t fp/\Kp wq w' Nul:=fun wq k=>(j2G ct sl F wq hx hs hok (hin.kp k (fun _ _ x=>x))).mono (by
  rintro e w' ⟨sl',fp,h1,h2,h3⟩;exact⟨sl',fp,h1,h2,Kp.of_below h3⟩)
 have hno:∀er w',Kp w w' Nul->(vC c r=true->gv ct=true->False)->∃er' L',Ending.returned (.int .i64 er)=.returned (.int .i64 er')/\j9 w' G g L'/\PutR L c r ct er' L'/\Km g w w':=fun er w' k hf=>⟨er,L,rfl,hG.kp k,⟨hL,fun h1 h2=>(hf h1 h2).elim,fun h1 h2=>(hf h1 h2).elim⟩,Km.of_nul k bg.lt⟩
 cases hV:gv ct with
 | false=>
  refine(j1P g c r ct sl false w (fun e=>by cases e) (hval false hV)).mono ?_;rintro e w' ⟨rfl,k⟩;exact hno _ w' k (fun _ h2=>by rw[hV] at h2;cases h2)
 | true=>
  cases hC:vC c r with
  | false=>
   refine(j1P g c r ct sl true w (fun _=>hC) (hval true hV)).mono ?_;rintro e w' ⟨rfl,k⟩;exact hno _ w' k (fun h1 _=>by rw[hC] at h1;cases h1)
  | true=>
   by_cases hk:ct.k=0
   ·refine(jBz G g c r hC ct hk sl L w hG (hval true hV)).mono ?_;rintro e w' ⟨rfl,h1,h2⟩;exact⟨0,_,rfl,h1,⟨hL.del _,fun _ _ h=>absurd hk h,fun _ _ _=>⟨rfl,rfl⟩⟩,h2⟩
   ·by_cases hroom:L.length<4096∨∃c',((c,r),c')∈L
    ·refine(j5D G g c r hC ct hk sl L w h hG hnew hL.len hroom (hval true hV) hcp).mono ?_;rintro e w' ⟨rfl,h1,h2⟩;exact⟨0,_,rfl,h1,⟨hL.put h.once hC (Gd.of hV hk hok hx hs) hroom,fun _ _ _ _=>⟨rfl,rfl⟩,fun _ _ h=>absurd h hk⟩,h2⟩
    ·have hfull:4096<=L.length:=by
      rcases Nat.lt_or_ge L.length 4096 with q|q
      ·exact absurd (.inl q) hroom
      ·exact q
     refine(j5C 0 g c r hC ct hk sl L w h hfull (fun c' q=>hroom (.inr ⟨c',q⟩)) (hval true hV)).mono ?_;rintro e w' ⟨rfl,k⟩;exact⟨41,L,rfl,hG.kp k,⟨hL,fun _ _ _ q=>absurd q hroom,fun _ _ q=>absurd q hk⟩,Km.of_nul k bg.lt⟩
theorem j59 {w:World}{b o:Nat}{c s:Int}{a:Ct}{sa:Value}(h:w.rangeAt b o (j6 ((c,s),a) sa)):w.rangeAt b o [.int .i64 c,.int .i64 s]/\w.rangeAt b (o+2) (a.cells sa):=by
 refine⟨fun j v hj=>h j v ?_,fun j v hj=>?_⟩
 ·match j,hj with
  | 0,hj=>exact hj
  | 1,hj=>exact hj
 ·have:=h (2+j) v (by rw[Nat.add_comm 2 j];exact hj);rw[<- Nat.add_assoc] at this;exact this
end
section
open Go.RowKit Go.Maps Go.Sort Go.Lib Go.Shelf
theorem j6J {F:Fence}{n:Nat}{ops:Array Oper}{rest:List Oper}{o:Oper}{a:Act}{w:World}{Q:Exit->Act->World->Prop}(hgd:Region.wanted o (yielded ops a.tmps)=true)(ty:TypeId)(x y:Operand)(ho:o.op=.store ty x y)
 (b:Nat) (hx:a.eval x=.pointer (some ⟨b,0,none⟩)) (v:Value) (hy:a.eval y=v) (h1:v.oneCell'=true) (t:TypeId) (old:Value) (hb:Blk w b [old] t) (hi:(Tryz.prog.info? ty).map (·.size)=some 1)
 (h:∀W,Blk W b [v] t->Kp w W (fun i=>i=b)->wpListIn F n Tryz.prog ops Q rest (a.put o.dst undef) W):wpListIn F n Tryz.prog ops Q (o::rest) a w:=by
 subst hy;refine j3B hgd (by simp[Oper.about,ho]) (fun c hc'=>by rw[ho] at hc';cases hc') (w':=w.setRow b #[a.eval y]) ?_ (h _ (setRow_heap w b #[old] #[a.eval y] t (0,0) hb) ?_)
 ·unfold execOp;simp only[ho,hx,Instr.storeAt,Instr.sureAddr,Sem.run_bind,Sem.run_pure,Result.andThen_ok,run_storeVar_one w b t ty old _ hb hi h1]
 ·refine⟨rfl,rfl,rfl,?_,fun i _ hn=>?_⟩
  ·unfold World.setRow;simp
  ·unfold World.setRow;simp only[Array.getElem?_modify];rw[if_neg (fun e=>hn e.symm)]
theorem j9.far {w w':World}{F S:Nat->Prop}{g:Nat}{L:List Cc}(h:j9 w F g L)(k:Kp w w' S)(hS:∀i,F i->¬S i):j9 w' F g L:=by
 obtain⟨hg,⟨hb,rfl⟩|⟨m,D,hb,hFm,hne,hown,hm⟩⟩:=h
 ·exact⟨hg,.inl ⟨(k.block g (Array.getElem?_eq_some_iff.1 hb).1 (hS g hg)).trans hb,rfl⟩⟩
 ·exact⟨hg,.inr ⟨m,D,(k.block g (Array.getElem?_eq_some_iff.1 hb).1 (hS g hg)).trans hb,hFm,hne,j0A hown (k.block m hown.lt (hS m hFm)),⟨hm.size,hm.rng,hm.keys,fun c r ct hc=>by obtain⟨sl,e1,e2⟩:=hm.vals c r ct hc;exact⟨sl,e1,e2.kp k (fun i hi=>hS i hi)⟩,hm.once⟩⟩⟩
end
section
open Go.RowKit Go.Maps
theorem j9.lows {w:World}{F:Nat->Prop}{g:Nat}{L:List Cc}(h:j9 w F g L):j9 w (fun b=>F b/\b<w.heap.size) g L:=by
 obtain⟨hF,⟨hb,e⟩|⟨m,D,hb,hm',hne,hown,hm⟩⟩:=h
 ·exact⟨⟨hF,(Array.getElem?_eq_some_iff.1 hb).1⟩,.inl ⟨hb,e⟩⟩
 ·exact⟨⟨hF,(Array.getElem?_eq_some_iff.1 hb).1⟩,.inr ⟨m,D,hb,⟨hm',hown.lt⟩,hne,hown,⟨hm.size,hm.rng,hm.keys,fun c r ct hc=>by obtain⟨sl,e1,e2⟩:=hm.vals c r ct hc;exact⟨sl,e1,e2.mono (fun b hF hb=>⟨rfl,hF,hb⟩)⟩,hm.once⟩⟩⟩
section
variable {f:Fate} {w W W':World} {B xc xr:Nat} {cols:Bool} {at' n:Int} {g2:Nat} {K:List Cc} {k:Nat} {Z:Nat->Prop} {M:List Cc}
end
end
section
open Go.RowKit Go.Maps Go.Sort Go.Lib Go.Shelf
attribute [local go_sem] Oper.semAt_some
theorem j5Y {fn:Func}{p q:Tmp}{ty tz:TypeId}(h:fn.results=#[.cell p ty,.cell q tz])(tmps:Array Value)(P:Program)(w:World):
 (results fn tmps).run P w=((asAddr (tmps.getD p undef)).run P w).andThen fun a w1=>((loadVar ty a).run P w1).andThen fun v w2=>((asAddr (tmps.getD q undef)).run P w2).andThen fun b w3=>((loadVar tz b).run P w3).andThen fun u w4=>.ok (.tuple #[v,u]) w4:=by
 simp only[results,h];simp[Sem.run_bind,Result.andThen]
end
section
open Go.RowKit Go.Maps
theorem j9D (w:World)(d f:Nat)(lb:Array Value):(Op.equalIn (d+1) 83 (.func (.func f) #[] lb) .nilFunc).run Tryz.prog w=.ok false w:=by
 simp[Op.equalIn,run_underlying Tryz.underlying83]
theorem j9G (f:Nat)(lb:Array Value)(w:World):(binOp .eql 83 (.func (.func f) #[] lb) .nilFunc).run Tryz.prog w=.ok (.bool false) w:=by
 simp only[binOp];simp[show Op.equal 83 (.func (.func f) #[] lb) .nilFunc=Op.equalIn (9999+1) 83 (.func (.func f) #[] lb) .nilFunc from rfl,j9D w 9999 f lb]
@[go_sem] theorem jFV (v0 v1 v2 v3 v4 v5 v6 v7 v8 v9 v10 v11 v12 v13 v14 v15 v16 v17 v18 v19 v20:Value) (w:World):(Instr.field 66 (.agg #[v0,v1,v2,v3,v4,v5,v6,v7,v8,v9,v10,v11,v12,v13,v14,v15,v16,v17,v18,v19,v20]) 1).run Tryz.prog w=.ok (.agg #[v1,v2,v3,v4,v5]) w:=by
 unfold Instr.field;rw[Sem.run_bind,run_underlying Tryz.underlying66 w];simp[part,asAgg,isAgg,run_underlying Tryz.underlying59 w,Sem.run_bind]
theorem j2I {W:World}{F:Nat->Prop}{g:Nat}{M:List Cc}(h:j9 W F g M){i:Nat}(hs:Sm W g i):F i:=by
 obtain⟨hF,⟨hb',_⟩|⟨m,D,hb',hm',_⟩⟩:=h
 ·rcases hs with rfl|⟨e,_⟩
  ·exact hF
  ·rw[hb'] at e;simp at e
 ·rcases hs with rfl|⟨e,_⟩
  ·exact hF
  ·rw[hb'] at e;have em:m=i:=(by simpa using e);rw[<- em];exact hm'
theorem jBv (w:World)(g:Nat)(c r:Int)(ct:Ct)(sl:Value)(L:List Cc)(wq:World)(hG:GI w.heap.size wq g L)(k:Kp w wq Nul)(hL:Ok17 L)(hgd:Gd ct)(hv:vC c r=true)(hin:NdIn wq (fun _=>True) sl ct.t)(hlen:L.length<4096)(U:VS w):
 Calls Tryz.prog 25 #[.pointer (some ⟨g,0,none⟩),.agg #[.int .i64 c,.int .i64 r],ct.val sl] wq fun e w'=>e=.returned (.int .i64 0)/\GI w.heap.size w' g (putL L (c,r) ct)/\Ok17 (putL L (c,r) ct)/\Kp w w' Nul:=by
 refine(jBy (fun i=>w.heap.size<=i) g c r ct sl (fun _=>True) L wq hG (fun i hi=>Nat.le_trans k.size hi) hL hgd.ok hgd.x hgd.size hin (U.kp k)).mono ?_;rintro e w' ⟨er,L',rfl,hg',hp,km⟩;obtain⟨rfl,rfl⟩:=hp.put hv hgd.val hgd.k (.inl hlen);have ho:=hp.ok;rw[hgd.cp] at hg' ho;exact⟨rfl,hg',ho,k.trans' km.kp (fun i hi hs=>by have:=j2I hG hs;omega)⟩
end
section
open Go.RowKit Go.Shelf
attribute [local go_sem] Oper.semAt_some
end
section
open Go.RowKit Go.Shelf
attribute [local go_sem] Oper.semAt_some
theorem j2t {fn:Func}(h:fn.results=#[])(tmps:Array Value)(w:World):(results fn tmps).run Tryz.prog w=.ok (.tuple #[]) w:=by
 simp[results,h]
end
section
open Go.RowKit Go.Maps
theorem j70 {t:Nd}(h:G8 t=true):t.size=1:=by
 obtain⟨hd,ts⟩:=t;unfold G8 zNd at h;rw[E3] at h;cases ts with
 | nil=>rw[Nd.size,j5]
 | cons a r=>simp[D3] at h
theorem j4V {c:Ct}(h:gv c=true):c.t.size<=1048576:=by
 unfold gv Q7 at h;simp only[Bool.or_eq_true,Bool.and_eq_true] at h;rcases h with (⟨_,_,h⟩|⟨_,_,h⟩)|⟨_,_,h⟩
 ·rw[j70 h];decide
 ·rw[j70 h];decide
 ·have e:chk c.t=0:=by simpa using h
  unfold chk at e;by_cases q:256<c.t.size
  ·rw[if_pos q] at e;omega
  ·omega
end
section
open Go.RowKit
section
variable {P:Program} {ops:Array Oper} {Q:Exit->Act->World->Prop} {md:Region.Mode} {S:World->Prop}
theorem j6l {i j:Nat}{oi oj:Oper}{n:Nat}{on:Array Bool}{a:Act}{w:World}(hr:Region.ready md ops on=[i,j])(hoi:ops[i]? = some oi)(hoj:ops[j]? = some oj)(hgi:oi.guard=none)(hgj:oj.guard=none)
 (h1:∀K':Act->World->Prop,Hid (∀a w,S w->(S w->wpAnyH P md ops Q S n (on.setIfInBounds i true) a w)->K' a w)->oi.wp P a w K' Q)
 (h2:∀K':Act->World->Prop,Hid (∀a w,S w->(S w->wpAnyH P md ops Q S n (on.setIfInBounds j true) a w)->K' a w)->oj.wp P a w K' Q):wpAnyH P md ops Q S (n+1) on a w:=by
 refine wpAnyH_all hr (by simp) (fun k hk=>?_);rcases List.mem_cons.1 hk with rfl|hk
 ·unfold wpOp;rw[hoi];simp only[Region.wanted,hgi,if_true];exact .inl (h1 _ (fun a w hS hW=>⟨hS,hW hS⟩))
 ·obtain rfl:=List.mem_singleton.1 hk;unfold wpOp;rw[hoj];simp only[Region.wanted,hgj,if_true];exact .inl (h2 _ (fun a w hS hW=>⟨hS,hW hS⟩))
end
end
section
open Go.RowKit Go.Maps Go.Sort Go.Lib Go.Shelf
attribute [local go_sem] Oper.semAt_some
theorem j4a (g x0 x1 A:Nat)(L K:List Cc)(w:World)(S:Nat->Prop)(hg:GI 0 w g L)(hF:j9 w (fun b=>b<A) g L)(gL:∀x∈L,Gd x.2)(hv:∀x∈L,vC x.1.1 x.1.2=true)(lL:L.length<=4096)
 (hK:D7 (K.map (·.1))) (hKL:∀x,x∈K↔x∈L) (hA:A<=w.heap.size) (hS:∀i,S i->A<=i) (b0:Blk w x0 [.pointer (some ⟨g,0,none⟩)] 23) (b1:Blk w x1 [.int .i64 1,.int .i64 1,.int .i64 256,.int .i64 4096] 134) :
 j3L Tryz.prog 123 #[.pointer (some ⟨x0,0,none⟩),.pointer (some ⟨x1,0,none⟩)] encQ wtQ (j0v w K) K.length S w:=by
 intro J Jx Z W hkw hsz hJ _ hJz hY hj0;have c0:W.cell? ⟨x0,0,none⟩=some (.pointer (some ⟨g,0,none⟩)):=(b0.kp hkw (fun x=>x)).cell rfl;have d0:W.cell? ⟨x1,0,none⟩=some (.int .i64 1):=(b1.kp hkw (fun x=>x)).cell rfl;have d1:W.cell? ⟨x1,1,none⟩=some (.int .i64 1):=(b1.kp hkw (fun x=>x)).cell rfl;have d2:W.cell? ⟨x1,2,none⟩=some (.int .i64 256):=(b1.kp hkw (fun x=>x)).cell rfl;have d3:W.cell? ⟨x1,3,none⟩=some (.int .i64 4096):=(b1.kp hkw (fun x=>x)).cell rfl;have HWi:Hid (Calls Tryz.prog 124 #[.pointer (some ⟨g,0,none⟩),.agg #[.int .i64 1,.int .i64 1,.int .i64 256,.int .i64 4096]] W fun e w'=>∃b ys,e=.returned (.slice (some ⟨b,0,none⟩) ys.length ys.length)/\WiR W w' (fun b=>b<A) L b ys):=jEv g _ L W (hg.kp hkw) (hF.kp hkw) gL hv lL;have HSZ:Hid (w.heap.size+2<=W.heap.size):=hsz;have HJ:Hid (∀k Z W W',J k Z W->Kp W W' Nul->J k Z W'):=hJ;have HJZ:Hid (∀k Z W,J k Z W->(∀i,Z i->i<W.heap.size)/\∀i,i<w.heap.size->Z i->S i):=hJz
 have HY:Hid (∀m k x Z W1,k<K.length->J k Z W1->j0v w K k x Z W1->YieldAt Fence.wide m Tryz.prog (w.heap.size+1) (encQ x) W1 fun e W'=>(e=.returned (.bool true)/\(∃Z',J (k+1) Z' W'/\More Z Z' W1)/\Kp W1 W' (fun i=>(Z i∨wtQ x i)∨i=w.heap.size+1))∨(e=.returned (.bool false)/\Jx W')):=hY;have HJ0:Hid (J 0 Z W):=hj0;have HGd:Hid (∀x∈L,Gd x.2):=gL;have HA:Hid (A<=w.heap.size):=hA;have HS:Hid (∀i,S i->A<=i):=hS;have HKK:Hid (∀ys:List (Cc×Value),D7 (ys.map (·.1.1))->(∀x,x∈ys.map (·.1)↔x∈L)->ys.map (·.1)=K):=fun ys h1 h2=>jDo (by rw[List.map_map];exact h1) hK (fun x=>(h2 x).trans (hKL x).symm)
 have HLK:Hid (K.length<=4096):=by
  have hnd:(K.map (·.1)).Nodup:=j6L hK;have:=j2g _ (L.map (·.1)) hnd (fun x hx=>by
   obtain⟨y,hy,rfl⟩:=List.mem_map.1 hx;exact List.mem_map.2 ⟨y,(hKL y).1 hy,rfl⟩)
  rw[List.length_map,List.length_map] at this;show _<=_;omega
 clear hkw hsz hJ hJz hY hj0 hg hF gL hv lL hK hKL hA hS b0 b1;simp only[List.append_toArray,List.cons_append,List.nil_append];refine(callsIn_wide (n:=8)).1 ?_;refine callsIn_of_wp Tryz.func123 rfl trivial ?_ rfl;simp only[Tryz.ntmps123,List.size_toArray,List.length_cons,List.length_nil,Nat.reduceAdd,Nat.reduceSub,Array.replicate_succ,Array.replicate_zero,List.push_toArray,List.append_toArray,List.nil_append,List.cons_append]
 gi_wp2_with (fail)
 refine⟨trivial,(callsIn_wide.2 HWi.out).mono ?_⟩;rintro e w2 ⟨b,ys,rfl,hwi⟩;have HW2:Hid (WiR W w2 (fun b=>b<A) L b ys):=hwi;have HYK:Hid (ys.map (·.1)=K):=HKK.out ys hwi.strict hwi.mem;have hlen:ys.length=K.length:=by rw[<- HYK.out,List.length_map]
 clear hwi c0 d0 d1 d2 d3 HKK;rw[hlen];generalize hn:K.length=n at *;have HLEN:Hid (ys.length=n):=hlen;have HN:Hid (K.length=n):=hn;clear hn hlen
 gi_wp2_with (fail)
 gi_loopw [12] (fun i wr=>∃(q:Nat) (Z:Nat->Prop),q<=n/\i=.int .i64 q/\J q Z wr/\InR W A b ys Z wr) (fun i _=>n-(RowKit.intOf i).toNat)
 case atStart=>
  refine⟨0,Z,Nat.zero_le _,rfl,HJ.out _ _ _ _ HJ0.out HW2.out.kp,?_⟩;exact⟨fun h=>by have h1:=(HJZ.out _ _ _ HJ0.out).1 b h;have h2:=HW2.out.low;omega,HW2.out.rng,HW2.out.tree,HW2.out.kp.size⟩
 case round=>
  obtain⟨q,Zq,hq,rfl,hjq,hin⟩:=hrel;have HJQ:Hid (J q Zq wr):=hjq;have HIN:Hid (InR W A b ys Zq wr):=hin;clear hjq hin;by_cases hlt:q<n
  ·have hqt:q<ys.length:=(by rw[HLEN.out];exact hlt);obtain⟨⟨⟨⟨c,s⟩,a⟩,sa⟩,hys⟩:∃y,ys[q]=y:=⟨_,rfl⟩;have hget:ys[q]? = some (((c,s),a),sa):=(by rw[List.getElem?_eq_getElem hqt,hys]);have HR:Hid (wr.rangeAt b (q*23) (j6 ((c,s),a) sa)):=HIN.out.rng q _ hget;have htree:NdIn wr (fun i=>i<A) sa a.t:=HIN.out.tree _ (List.mem_of_getElem? hget);have O1:Hid (sa.oneCell'=true):=htree.one;have hKq:K[q]? = some ((c,s),a):=(by rw[<- HYK.out,List.getElem?_map,hget];rfl);have HKQ:Hid (K[q]? = some ((c,s),a)):=hKq;have hgd:Gd a:=HGd.out _ ((HW2.out.mem _).1 (List.mem_map.2 ⟨_,List.mem_of_getElem? hget,rfl⟩));have hbl:b<wr.heap.size:=L5 HR.out;have HBL:Hid (b<wr.heap.size):=hbl;have B5:Blk (wr.alloc (.cells (j6 ((c,s),a) sa).toArray 68)) wr.heap.size (j6 ((c,s),a) sa) 68:=Blk.new wr _ _;have HAt:Hid (∀wq,Kp (wr.alloc (.cells (j6 ((c,s),a) sa).toArray 68)) wq Nul->wq.rangeAt wr.heap.size 0 [.int .i64 c,.int .i64 s]):=fun wq k j v hj=>by
    match j,hj with
    | 0,hj=>cases hj;exact(B5.kp k (fun x=>x)).cell rfl
    | 1,hj=>cases hj;exact(B5.kp k (fun x=>x)).cell rfl
   have HCo:Hid (∀wq,Kp (wr.alloc (.cells (j6 ((c,s),a) sa).toArray 68)) wq Nul->wq.rangeAt wr.heap.size 2 (a.cells sa)):=fun wq k j v hj=>by
    refine(B5.kp k (fun x=>x)).cell ?_;show (j6 ((c,s),a) sa)[2+j]? = some v;rw[Nat.add_comm 2 j];exact hj
   have HCp:Hid (∀wq,Kp (wr.alloc (.cells (j6 ((c,s),a) sa).toArray 68)) wq Nul->Calls Tryz.prog 61 #[.agg (a.cells sa).toArray] wq fun e w'=>∃sl',e=.returned (.agg (a.cells sl').toArray)/\(∃fp,Own w' wq.heap.size sl' a.t fp)/\Kp wq w' Nul):=fun wq k=>by
    have hk:Kp wr wq Nul:=((Kp.refl wr Nul).alloc _).trans k;refine(j2G a sa (fun i=>i<A) wq hgd.x hgd.size hgd.ok (htree.kp hk (fun _ _ x=>x))).mono ?_;rintro e w' ⟨sl',fp,rfl,h1,h2⟩;rw[hgd.cp] at h1 ⊢;exact⟨sl',rfl,⟨fp,h1⟩,Kp.of_below h2⟩
   have hkb:(q:Int)+1<=9223372036854775807:=(by have:=HLK.out;omega);have hq0:(0:Int)<=(q:Int):=(by omega);have hqn:(q:Int)<(n:Int):=(by omega);clear hqt hys hget htree hKq hgd hbl B5
   gi_wp2_with (first
    | (refine jAR rfl (.tmp 14) rfl b (q*23) rfl (j6 ((c,s),a) sa) HR.out rfl ?_)
    | (refine j34 rfl 68 (.tmp 5) (.tmp 15) rfl _ _ _ _ (by first|rfl|simp) rfl rfl rfl j0c (all_oneCell_toArray (j0D _ O1.out)) ?_)
    | fail)
   refine j5W ?_;refine wpIn_region_any (by kernel_rfl) ?_;refine j1s (i:=0) (.func (.yield (w.heap.size+1)) #[] #[]) (some 16) rfl rfl (by kernel_rfl) (by kernel_rfl) (by kernel_rfl) (fun _ _ _ h=>h) rfl (fun _=>rfl) (fun _=>by go_simp) ?_;simp only[Act.put,Sz0,Sz1,Sz2];refine j1s (i:=1) (.pointer (some ⟨wr.heap.size,0,none⟩)) (some 17) rfl rfl (by kernel_rfl) (by kernel_rfl) (by kernel_rfl) (fun _ _ _ h=>h) rfl (fun _=>rfl) (fun _=>by go_simp) ?_;simp only[Act.put,Sz0,Sz1,Sz2];refine j1s (i:=3) (.pointer (some ⟨wr.heap.size,2,none⟩)) (some 19) rfl rfl (by kernel_rfl) (by kernel_rfl) (by kernel_rfl) (fun _ _ _ h=>h) rfl (fun _=>rfl) (fun _=>by go_simp) ?_;simp only[Act.put,Sz0,Sz1,Sz2];refine wpAnyIn_ready (rs:=[2,4]) (by kernel_rfl) (by simp) ?_;intro i hi;rcases List.mem_cons.1 hi with rfl|hi
   ·clear hi;refine Q3 (v:=.agg #[.int .i64 c,.int .i64 s]) (some 18) rfl rfl rfl rfl (fun c h=>by cases h) (w':=(wr.alloc (.cells (j6 ((c,s),a) sa).toArray 68)).drew) (L3 57 (.tmp 17) rfl wr.heap.size 0 rfl [.int .i64 c,.int .i64 s] _ (HAt.out (wr.alloc (.cells (j6 ((c,s),a) sa).toArray 68)).drew ((Kp.refl _ _).drew)) Tryz.underlying57 rfl F4) ?_;simp only[Act.put,Sz0,Sz1,Sz2];refine wpAnyIn_ready (rs:=[4]) (by kernel_rfl) (by simp) ?_;intro i hi;obtain rfl:=List.mem_singleton.1 hi;clear hi;refine Q3 (v:=.agg (a.cells sa).toArray) (some 20) rfl rfl rfl rfl (fun c h=>by cases h) (w':=(wr.alloc (.cells (j6 ((c,s),a) sa).toArray 68)).drew) (L3 66 (.tmp 19) rfl wr.heap.size 2 rfl (a.cells sa) _ (HCo.out _ ((Kp.refl _ _).drew)) Tryz.underlying66 rfl E8) ?_
    simp only[Act.put,Sz0,Sz1,Sz2];refine wpAnyIn_ready (rs:=[5]) (by kernel_rfl) (by simp) ?_;intro i hi;obtain rfl:=List.mem_singleton.1 hi;clear hi;refine j1q (f:=61) (args:=#[.agg (a.cells sa).toArray]) (some 21) rfl rfl rfl (by decide) (fun c h=>by cases h) (w':=(wr.alloc (.cells (j6 ((c,s),a) sa).toArray 68)).drew) (by go_simp) ?_;refine(HCp.out _ ((Kp.refl _ _).drew)).mono ?_;rintro e w4 ⟨s4,rfl,⟨f4,ho4⟩,hk4⟩;refine⟨_,rfl,?_⟩;simp only[Act.put,Sz0,Sz1,Sz2];refine wpAnyIn_ready (rs:=[6]) (by kernel_rfl) (by simp) ?_;intro i hi;obtain rfl:=List.mem_singleton.1 hi;clear hi;have hK4:Kp wr w4 Nul:=((Kp.refl wr Nul).alloc _).drew.trans hk4;have hs5:(wr.alloc (.cells (j6 ((c,s),a) sa).toArray 68)).drew.heap.size=wr.heap.size+1:=World.size_alloc _ _;obtain⟨fn,tms,asg,bod,hy,hR⟩:=HY.out 7 q ((((c,s),a),s4),f4) Zq w4 hlt (HJ.out _ _ _ _ HJQ.out hK4) ⟨HKQ.out,ho4.own,ho4.nodup,fun i hi=>by
     have h1:=(ho4.new i hi).1;have h2:=HSZ.out;have h3:=HIN.out.size;exact⟨by omega,fun hz=>by have:=(HJZ.out _ _ _ HJQ.out).1 i hz;omega⟩⟩
    refine j1r (l:=w.heap.size+1) (f:=fn) (tms:=tms) (asg:=asg) (bod:=bod) (some 22) rfl rfl rfl (by decide) (fun c h=>by cases h) (w':=w4) ?_ ?_
    ·first
     | (go_simp;done)
     | (go_simp;exact hy)
    refine hR.mono ?_;rintro e w6 (⟨rfl,⟨Z6,hj6,hm6⟩,hk6⟩|⟨rfl,hx6⟩);rotate_left
    ·have HX6:Hid (Jx w6):=hx6;refine⟨_,rfl,?_⟩;simp only[Act.put,Sz0,Sz1,Sz2];clear hy hR hx6 hk4 ho4 hK4 hs5;refine wpAnyIn_ready (rs:=[7]) (by kernel_rfl) (by simp) ?_;intro i hi;obtain rfl:=List.mem_singleton.1 hi;clear hi;refine Q3 (v:=.bool true) (some 23) rfl rfl rfl rfl (fun c h=>by cases h) (w':=w6) (by go_simp) ?_;simp only[Act.put,Sz0,Sz1,Sz2];refine wpAnyIn_done (by kernel_rfl) ?_ _;refine NoPanic.normal ?_
     gi_wp2_with (fail)
     refine bodyPost_ret (j2t rfl _ _) rfl ?_;exact⟨⟨_,rfl⟩,.inr HX6.out⟩
    refine⟨_,rfl,?_⟩;simp only[Act.put,Sz0,Sz1,Sz2];have HJ6:Hid (J (q+1) Z6 w6):=hj6;have HIN6:Hid (InR W A b ys Z6 w6):=by
     have k6:Kp wr w6 (fun i=>(Zq i∨i∈f4)∨i=w.heap.size+1):=hK4.of_nul.trans hk6;have hbl:=HBL.out;have hb2:=HW2.out.low;have hb3:=HSZ.out;refine⟨fun hz=>?_,fun i y hy=>j1T (HIN.out.rng i y hy) k6 (fun e=>?_),fun y hy=>(HIN.out.tree y hy).kp k6 (fun i hi e=>?_),Nat.le_trans HIN.out.size k6.size⟩
     ·rcases hm6 b hz with h|h
      ·exact HIN.out.nz h
      ·have h1:=HBL.out;have h2:=hK4.size;omega
     ·rcases e with (e|e)|e
      ·exact HIN.out.nz e
      ·have:=(ho4.new _ e).1;omega
      ·omega
     ·have hi':i<A:=hi;have h1:=HA.out;rcases e with (e|e)|e
      ·have:=HS.out i ((HJZ.out _ _ _ HJQ.out).2 i (by omega) e);omega
      ·have:=(ho4.new _ e).1;have:=HIN.out.size;omega
      ·omega
    clear hy hR hj6 hm6 hk6 hk4 ho4 hK4 hs5;refine wpAnyIn_ready (rs:=[7]) (by kernel_rfl) (by simp) ?_;intro i hi;obtain rfl:=List.mem_singleton.1 hi;clear hi;refine Q3 (v:=.bool false) (some 23) rfl rfl rfl rfl (fun c h=>by cases h) (w':=w6) (by go_simp) ?_;simp only[Act.put,Sz0,Sz1,Sz2];refine wpAnyIn_done (by kernel_rfl) ?_ _;refine NoPanic.normal ?_
    gi_wp2_with (fail)
    exact⟨⟨q+1,Z6,by omega,by go_num,HJ6.out,HIN6.out⟩,by simp only[RowKit.intOf];omega⟩
   ·obtain rfl:=List.mem_singleton.1 hi;clear hi;refine Q3 (v:=.agg (a.cells sa).toArray) (some 20) rfl rfl rfl rfl (fun c h=>by cases h) (w':=(wr.alloc (.cells (j6 ((c,s),a) sa).toArray 68)).drew) (L3 66 (.tmp 19) rfl wr.heap.size 2 rfl (a.cells sa) _ (HCo.out _ ((Kp.refl _ _).drew)) Tryz.underlying66 rfl E8) ?_;simp only[Act.put,Sz0,Sz1,Sz2];refine wpAnyIn_ready (rs:=[2,5]) (by kernel_rfl) (by simp) ?_;intro i hi;rcases List.mem_cons.1 hi with rfl|hi
    ·clear hi;refine Q3 (v:=.agg #[.int .i64 c,.int .i64 s]) (some 18) rfl rfl rfl rfl (fun c h=>by cases h) (w':=(wr.alloc (.cells (j6 ((c,s),a) sa).toArray 68)).drew) (L3 57 (.tmp 17) rfl wr.heap.size 0 rfl [.int .i64 c,.int .i64 s] _ (HAt.out (wr.alloc (.cells (j6 ((c,s),a) sa).toArray 68)).drew ((Kp.refl _ _).drew)) Tryz.underlying57 rfl F4) ?_;simp only[Act.put,Sz0,Sz1,Sz2];refine wpAnyIn_ready (rs:=[5]) (by kernel_rfl) (by simp) ?_;intro i hi;obtain rfl:=List.mem_singleton.1 hi;clear hi;refine j1q (f:=61) (args:=#[.agg (a.cells sa).toArray]) (some 21) rfl rfl rfl (by decide) (fun c h=>by cases h) (w':=(wr.alloc (.cells (j6 ((c,s),a) sa).toArray 68)).drew) (by go_simp) ?_;refine(HCp.out _ ((Kp.refl _ _).drew)).mono ?_;rintro e w4 ⟨s4,rfl,⟨f4,ho4⟩,hk4⟩;refine⟨_,rfl,?_⟩;simp only[Act.put,Sz0,Sz1,Sz2]
     refine wpAnyIn_ready (rs:=[6]) (by kernel_rfl) (by simp) ?_;intro i hi;obtain rfl:=List.mem_singleton.1 hi;clear hi;have hK4:Kp wr w4 Nul:=((Kp.refl wr Nul).alloc _).drew.trans hk4;have hs5:(wr.alloc (.cells (j6 ((c,s),a) sa).toArray 68)).drew.heap.size=wr.heap.size+1:=World.size_alloc _ _;obtain⟨fn,tms,asg,bod,hy,hR⟩:=HY.out 7 q ((((c,s),a),s4),f4) Zq w4 hlt (HJ.out _ _ _ _ HJQ.out hK4) ⟨HKQ.out,ho4.own,ho4.nodup,fun i hi=>by
      have h1:=(ho4.new i hi).1;have h2:=HSZ.out;have h3:=HIN.out.size;exact⟨by omega,fun hz=>by have:=(HJZ.out _ _ _ HJQ.out).1 i hz;omega⟩⟩
     refine j1r (l:=w.heap.size+1) (f:=fn) (tms:=tms) (asg:=asg) (bod:=bod) (some 22) rfl rfl rfl (by decide) (fun c h=>by cases h) (w':=w4) ?_ ?_
     ·first
      | (go_simp;done)
      | (go_simp;exact hy)
     refine hR.mono ?_;rintro e w6 (⟨rfl,⟨Z6,hj6,hm6⟩,hk6⟩|⟨rfl,hx6⟩);rotate_left
     ·have HX6:Hid (Jx w6):=hx6;refine⟨_,rfl,?_⟩;simp only[Act.put,Sz0,Sz1,Sz2];clear hy hR hx6 hk4 ho4 hK4 hs5;refine wpAnyIn_ready (rs:=[7]) (by kernel_rfl) (by simp) ?_;intro i hi;obtain rfl:=List.mem_singleton.1 hi;clear hi;refine Q3 (v:=.bool true) (some 23) rfl rfl rfl rfl (fun c h=>by cases h) (w':=w6) (by go_simp) ?_;simp only[Act.put,Sz0,Sz1,Sz2];refine wpAnyIn_done (by kernel_rfl) ?_ _;refine NoPanic.normal ?_
      gi_wp2_with (fail)
      refine bodyPost_ret (j2t rfl _ _) rfl ?_;exact⟨⟨_,rfl⟩,.inr HX6.out⟩
     refine⟨_,rfl,?_⟩;simp only[Act.put,Sz0,Sz1,Sz2];have HJ6:Hid (J (q+1) Z6 w6):=hj6;have HIN6:Hid (InR W A b ys Z6 w6):=by
      have k6:Kp wr w6 (fun i=>(Zq i∨i∈f4)∨i=w.heap.size+1):=hK4.of_nul.trans hk6;have hbl:=HBL.out;have hb2:=HW2.out.low;have hb3:=HSZ.out;refine⟨fun hz=>?_,fun i y hy=>j1T (HIN.out.rng i y hy) k6 (fun e=>?_),fun y hy=>(HIN.out.tree y hy).kp k6 (fun i hi e=>?_),Nat.le_trans HIN.out.size k6.size⟩
      ·rcases hm6 b hz with h|h
       ·exact HIN.out.nz h
       ·have h1:=HBL.out;have h2:=hK4.size;omega
      ·rcases e with (e|e)|e
       ·exact HIN.out.nz e
       ·have:=(ho4.new _ e).1;omega
       ·omega
      ·have hi':i<A:=hi;have h1:=HA.out;rcases e with (e|e)|e
       ·have:=HS.out i ((HJZ.out _ _ _ HJQ.out).2 i (by omega) e);omega
       ·have:=(ho4.new _ e).1;have:=HIN.out.size;omega
       ·omega
     clear hy hR hj6 hm6 hk6 hk4 ho4 hK4 hs5;refine wpAnyIn_ready (rs:=[7]) (by kernel_rfl) (by simp) ?_;intro i hi;obtain rfl:=List.mem_singleton.1 hi;clear hi;refine Q3 (v:=.bool false) (some 23) rfl rfl rfl rfl (fun c h=>by cases h) (w':=w6) (by go_simp) ?_;simp only[Act.put,Sz0,Sz1,Sz2];refine wpAnyIn_done (by kernel_rfl) ?_ _;refine NoPanic.normal ?_
     gi_wp2_with (fail)
     exact⟨⟨q+1,Z6,by omega,by go_num,HJ6.out,HIN6.out⟩,by simp only[RowKit.intOf];omega⟩
    ·obtain rfl:=List.mem_singleton.1 hi;clear hi;refine j1q (f:=61) (args:=#[.agg (a.cells sa).toArray]) (some 21) rfl rfl rfl (by decide) (fun c h=>by cases h) (w':=(wr.alloc (.cells (j6 ((c,s),a) sa).toArray 68)).drew) (by go_simp) ?_;refine(HCp.out _ ((Kp.refl _ _).drew)).mono ?_;rintro e w4 ⟨s4,rfl,⟨f4,ho4⟩,hk4⟩;refine⟨_,rfl,?_⟩;simp only[Act.put,Sz0,Sz1,Sz2];refine wpAnyIn_ready (rs:=[2]) (by kernel_rfl) (by simp) ?_;intro i hi;obtain rfl:=List.mem_singleton.1 hi;clear hi;refine Q3 (v:=.agg #[.int .i64 c,.int .i64 s]) (some 18) rfl rfl rfl rfl (fun c h=>by cases h) (w':=w4) (L3 57 (.tmp 17) rfl wr.heap.size 0 rfl [.int .i64 c,.int .i64 s] _ (HAt.out w4 (((Kp.refl _ _).drew).trans hk4)) Tryz.underlying57 rfl F4) ?_;simp only[Act.put,Sz0,Sz1,Sz2];refine wpAnyIn_ready (rs:=[6]) (by kernel_rfl) (by simp) ?_;intro i hi
     obtain rfl:=List.mem_singleton.1 hi;clear hi;have hK4:Kp wr w4 Nul:=((Kp.refl wr Nul).alloc _).drew.trans hk4;have hs5:(wr.alloc (.cells (j6 ((c,s),a) sa).toArray 68)).drew.heap.size=wr.heap.size+1:=World.size_alloc _ _;obtain⟨fn,tms,asg,bod,hy,hR⟩:=HY.out 7 q ((((c,s),a),s4),f4) Zq w4 hlt (HJ.out _ _ _ _ HJQ.out hK4) ⟨HKQ.out,ho4.own,ho4.nodup,fun i hi=>by
      have h1:=(ho4.new i hi).1;have h2:=HSZ.out;have h3:=HIN.out.size;exact⟨by omega,fun hz=>by have:=(HJZ.out _ _ _ HJQ.out).1 i hz;omega⟩⟩
     refine j1r (l:=w.heap.size+1) (f:=fn) (tms:=tms) (asg:=asg) (bod:=bod) (some 22) rfl rfl rfl (by decide) (fun c h=>by cases h) (w':=w4) ?_ ?_
     ·first
      | (go_simp;done)
      | (go_simp;exact hy)
     refine hR.mono ?_;rintro e w6 (⟨rfl,⟨Z6,hj6,hm6⟩,hk6⟩|⟨rfl,hx6⟩);rotate_left
     ·have HX6:Hid (Jx w6):=hx6;refine⟨_,rfl,?_⟩;simp only[Act.put,Sz0,Sz1,Sz2];clear hy hR hx6 hk4 ho4 hK4 hs5;refine wpAnyIn_ready (rs:=[7]) (by kernel_rfl) (by simp) ?_;intro i hi;obtain rfl:=List.mem_singleton.1 hi;clear hi;refine Q3 (v:=.bool true) (some 23) rfl rfl rfl rfl (fun c h=>by cases h) (w':=w6) (by go_simp) ?_;simp only[Act.put,Sz0,Sz1,Sz2];refine wpAnyIn_done (by kernel_rfl) ?_ _;refine NoPanic.normal ?_
      gi_wp2_with (fail)
      refine bodyPost_ret (j2t rfl _ _) rfl ?_;exact⟨⟨_,rfl⟩,.inr HX6.out⟩
     refine⟨_,rfl,?_⟩;simp only[Act.put,Sz0,Sz1,Sz2];have HJ6:Hid (J (q+1) Z6 w6):=hj6;have HIN6:Hid (InR W A b ys Z6 w6):=by
      have k6:Kp wr w6 (fun i=>(Zq i∨i∈f4)∨i=w.heap.size+1):=hK4.of_nul.trans hk6;have hbl:=HBL.out;have hb2:=HW2.out.low;have hb3:=HSZ.out;refine⟨fun hz=>?_,fun i y hy=>j1T (HIN.out.rng i y hy) k6 (fun e=>?_),fun y hy=>(HIN.out.tree y hy).kp k6 (fun i hi e=>?_),Nat.le_trans HIN.out.size k6.size⟩
      ·rcases hm6 b hz with h|h
       ·exact HIN.out.nz h
       ·have h1:=HBL.out;have h2:=hK4.size;omega
      ·rcases e with (e|e)|e
       ·exact HIN.out.nz e
       ·have:=(ho4.new _ e).1;omega
       ·omega
      ·have hi':i<A:=hi;have h1:=HA.out;rcases e with (e|e)|e
       ·have:=HS.out i ((HJZ.out _ _ _ HJQ.out).2 i (by omega) e);omega
       ·have:=(ho4.new _ e).1;have:=HIN.out.size;omega
       ·omega
     clear hy hR hj6 hm6 hk6 hk4 ho4 hK4 hs5;refine wpAnyIn_ready (rs:=[7]) (by kernel_rfl) (by simp) ?_;intro i hi;obtain rfl:=List.mem_singleton.1 hi;clear hi;refine Q3 (v:=.bool false) (some 23) rfl rfl rfl rfl (fun c h=>by cases h) (w':=w6) (by go_simp) ?_;simp only[Act.put,Sz0,Sz1,Sz2];refine wpAnyIn_done (by kernel_rfl) ?_ _;refine NoPanic.normal ?_
     gi_wp2_with (fail)
     exact⟨⟨q+1,Z6,by omega,by go_num,HJ6.out,HIN6.out⟩,by simp only[RowKit.intOf];omega⟩
  ·have hqe:q=n:=(by omega);subst hqe;have hqn:¬((q:Int)<(q:Int)):=(by omega);have HJN:Hid (∃Z',J q Z' wr):=⟨_,HJQ.out⟩
   gi_wp2_with (fail)
   go_end0
   exact⟨⟨_,rfl⟩,.inl (by rw[HN.out];exact HJN.out)⟩
end
end Go.Proofs.YtnceajanlnnfoaaGreatDoor
