/-The document's Count, Depth and bare (quadrilleref12). -/
import Derived.Test.YtecjfnkakodebaaGreatDoorRmQa
open Go.Proofs.Tryz
open Go.Value renaming int->O,bool->E,slice->U,float->ap,string->aq
open Go.IntKind renaming i64->I
open Bool renaming false->R,true->J
open Option renaming some->H,none->G
open Go.Ending renaming returned->Q
open Go.FloatKind renaming f64->ao
set_option maxRecDepth 20000
set_option maxHeartbeats 16000000
namespace Go.Proofs.YtecjfnkakodebaaGreatDoor
section
open Go.RowKit
theorem jD5 (N:Nat):∀(t:Nd) (sl:Value) (F:Nat->Prop) (w:World),t.size<=N->N<=1048576->NdIn w F sl t ->
 Calls prog 124 #[t.hd.val sl] w fun e w'=>e=Q (O I (t.size:Nat))/\Gr w w':=by
 induction N with
 | zero=>intro t sl F w h;have:=L7 t;omega
 | succ N ih=>
  intro t sl F w hN hB hin;have hdl:t.size<=t.size:=Nat.le_refl _;obtain⟨hd,ts⟩:=t;rw[NdIn] at hin;obtain⟨a,c,rfl,h2,h3,h4⟩:=hin;have hsz:Hid ((Nd.mk hd ts).size=1+D3 ts):=by show _=_;rw[Nd.size]
  have hdp:Hid ((Nd.mk hd ts).size=1+D3 ts):=by show _=_;rw[Nd.size]
  have HN:=h_ hN;have HBd:=h_ hB;have IH:Hid (∀(t:Nd) (sl:Value) (F:Nat->Prop) (w:World),t.size<=N->N<=1048576->NdIn w F sl t ->
   Calls prog 124 #[t.hd.val sl] w fun e w'=>e=Q (O I (t.size:Nat))/\Gr w w'):=ih
  clear ih hN hB;have hlen:ts.length<=9223372036854775807:=by unfold maxLen at h3;omega
  have H4:=h_ h4;have HD:Hid (D3 ts<=1048576):=by show _<=_;have:=HN.o;have:=HBd.o;have:=hdp.o;omega
  clear h4 h2 h3 hdl;generalize hn:ts.length=n at *;have HL:=h_ hn;have HLEN:=h_ hlen;clear hn hlen;generalize hW:(Nd.mk hd ts).size=S at *;simp only[Nd.hd];obtain⟨k,o',x,s,bb,f,c1,r1,p1,q1,c2,r2,p2,q2⟩:=hd;go_enter func124,ntmps124;go_wp2_with fail;generalize hW0:(w.alloc (.cells #[O I k,O I o',ap ao x,aq s,E bb,O I f,O I c1,O I r1,E p1,E q1,O I c2,O I r2,E p2,E q2,U a n c] 48))=W0 at *;have G0:Hid (Gr w W0):=by show Gr _ _;rw[<- hW0];exact(Gr.refl w).alloc _ _
  have C0:Hid (W0.cell? ⟨w.heap.size,14,G⟩=H (U a n c)):=by
   show _=_;rw[<- hW0,World.cell?_alloc_at _ _ _ _ rfl];rfl
  have HB:=h_ (J7 C0.o);clear hW0;go_loopw[3,4] (fun s i wr=>∃k:Nat,k<=n/\s=O I (1+D3 (ts.take k):Nat)/\i=O I k/\Gr W0 wr) (fun _ i _=>n-(RowKit.intOf i).toNat)
  case atStart=>exact⟨0,Nat.zero_le _,by simp[D3],by simp,Gr.refl _⟩
  case round=>
   obtain⟨k,hk,rfl,rfl,hg⟩:=hrel;have GR:=h_ hg;have cl:=hg.cell HB.o C0.o;clear hg;by_cases hlt:k<n
   ·have hki:k<ts.length:=(by rw[HL.o];exact hlt);obtain⟨b,o,rfl,hF,hns⟩:∃b o,a=H ⟨b,o,G⟩/\F b/\F6 w F b o ts:=by
     rcases H4.o with h|h
     ·rw[h.1] at hki;simp at hki
     ·exact h
    obtain⟨sl,hr,hni⟩:=hns.get k hki;have G1:=G0.o.trans GR.o;have HR:=h_ (j1R hr G1);have hni':=hni.gr G1;have hs1:=Q4 ts k hki;have HC:=(h_ fun wq (hq:Gr wr wq)=>IH.o ts[k] sl F wq (by have:=HN.o;have:=hsz.o;omega) (by have:=HBd.o;omega) (hni'.gr hq));have hA:=h_ (j2W ts k hki);have hbd:D3 (ts.take (k+1))<=1048576:=by
     have:=HD.o;have h9:=j2X ts (k+1);have:=HN.o;have:=HBd.o;have:=hsz.o;omega
    rw[hA.o] at hbd;clear hs1 hni hni' hr hns;generalize (ts[k]).size=z at *;generalize (ts[k]).hd=hh at *;generalize D3 (ts.take k)=y at *;have hkb:(k:Int)+1<=9223372036854775807:=(by have:=HLEN.o;omega);have hz1:z<=1048576:=(by omega);have hy1:y<=1048576:=(by omega);clear hW hbd
    as_aux_lemma=>
    go_wp2_with (refine wpList_load_mid rfl _ _ rfl _ _ rfl _ _ HR.o underlying48 rfl j3 ?_);refine(HC.o _ (Gr.refl _)).mono ?_;rintro e w1 ⟨rfl,hg1⟩;have G2:=h_ (GR.o.trans hg1);clear hg1 cl;go_wp2_with fail;go_roundw
    case rel=>exact⟨k+1,by omega,by rw[hA.o];congr 1;omega,by go_num,G2.o⟩
    case measure=>simp only[RowKit.intOf];omega
   ·have hke:k=n:=(by omega);subst hke;have hw4:Hid (1+D3 (ts.take k)=S):=by
     show _=_;rw[<- HL.o,List.take_length,<- hdp.o]
    have hd1:D3 (ts.take k)<=1048576:=(by rw[<- HL.o,List.take_length];exact HD.o);generalize D3 (ts.take k)=y at *;clear hW
    as_aux_lemma=>
    go_wp2_with fail;go_ret;exact⟨rInt (by have:=hw4.o;omega),G0.o.trans GR.o⟩
theorem jD6 (N:Nat):∀(t:Nd) (sl:Value) (F:Nat->Prop) (w:World),t.size<=N->N<=1048576->NdIn w F sl t ->
 Calls prog 125 #[t.hd.val sl] w fun e w'=>e=Q (O I (t.dep:Nat))/\Gr w w':=by
 induction N with
 | zero=>intro t sl F w h;have:=L7 t;omega
 | succ N ih=>
  intro t sl F w hN hB hin;have hdl:=j31 t;obtain⟨hd,ts⟩:=t;rw[NdIn] at hin;obtain⟨a,c,rfl,h2,h3,h4⟩:=hin;have hsz:Hid ((Nd.mk hd ts).size=1+D3 ts):=by show _=_;rw[Nd.size]
  have hdp:Hid ((Nd.mk hd ts).dep=1+depL ts):=by show _=_;rw[Nd.dep]
  have HN:=h_ hN;have HBd:=h_ hB;have IH:Hid (∀(t:Nd) (sl:Value) (F:Nat->Prop) (w:World),t.size<=N->N<=1048576->NdIn w F sl t ->
   Calls prog 125 #[t.hd.val sl] w fun e w'=>e=Q (O I (t.dep:Nat))/\Gr w w'):=ih
  clear ih hN hB;have hlen:ts.length<=9223372036854775807:=by unfold maxLen at h3;omega
  have H4:=h_ h4;have HD:Hid (depL ts<=1048576):=by show _<=_;have:=HN.o;have:=HBd.o;have:=hdp.o;omega
  clear h4 h2 h3 hdl;generalize hn:ts.length=n at *;have HL:=h_ hn;have HLEN:=h_ hlen;clear hn hlen;generalize hW:(Nd.mk hd ts).dep=S at *;simp only[Nd.hd];obtain⟨k,o',x,s,bb,f,c1,r1,p1,q1,c2,r2,p2,q2⟩:=hd;go_enter func125,ntmps125;go_wp2_with fail;generalize hW0:(w.alloc (.cells #[O I k,O I o',ap ao x,aq s,E bb,O I f,O I c1,O I r1,E p1,E q1,O I c2,O I r2,E p2,E q2,U a n c] 48))=W0 at *;have G0:Hid (Gr w W0):=by show Gr _ _;rw[<- hW0];exact(Gr.refl w).alloc _ _
  have C0:Hid (W0.cell? ⟨w.heap.size,14,G⟩=H (U a n c)):=by
   show _=_;rw[<- hW0,World.cell?_alloc_at _ _ _ _ rfl];rfl
  have HB:=h_ (J7 C0.o);clear hW0;go_loopw[3,4] (fun s i wr=>∃k:Nat,k<=n/\s=O I (depL (ts.take k):Nat)/\i=O I k/\Gr W0 wr) (fun _ i _=>n-(RowKit.intOf i).toNat)
  case atStart=>exact⟨0,Nat.zero_le _,by simp[depL],by simp,Gr.refl _⟩
  case round=>
   obtain⟨k,hk,rfl,rfl,hg⟩:=hrel;have GR:=h_ hg;have cl:=hg.cell HB.o C0.o;clear hg;by_cases hlt:k<n
   ·have hki:k<ts.length:=(by rw[HL.o];exact hlt);obtain⟨b,o,rfl,hF,hns⟩:∃b o,a=H ⟨b,o,G⟩/\F b/\F6 w F b o ts:=by
     rcases H4.o with h|h
     ·rw[h.1] at hki;simp at hki
     ·exact h
    obtain⟨sl,hr,hni⟩:=hns.get k hki;have G1:=G0.o.trans GR.o;have HR:=h_ (j1R hr G1);have hni':=hni.gr G1;have hs1:=Q4 ts k hki;have HC:=(h_ fun wq (hq:Gr wr wq)=>IH.o ts[k] sl F wq (by have:=HN.o;have:=hsz.o;omega) (by have:=HBd.o;omega) (hni'.gr hq));have hA:=h_ (j4q ts k hki);have hbd:depL (ts.take (k+1))<=1048576:=by
     have:=HD.o;have h9:=Nat.le_trans (j30 _) (j2X ts (k+1));have:=HN.o;have:=HBd.o;have:=hsz.o;omega
    rw[hA.o] at hbd;clear hs1 hni hni' hr hns;generalize (ts[k]).dep=z at *;generalize (ts[k]).hd=hh at *;generalize depL (ts.take k)=y at *;have hkb:(k:Int)+1<=9223372036854775807:=by have:=HLEN.o;omega
    skip
    clear hW hbd
    as_aux_lemma=>
    go_wp2_with (refine wpList_load_mid rfl _ _ rfl _ _ rfl _ _ HR.o underlying48 rfl j3 ?_);refine(HC.o _ (Gr.refl _)).mono ?_;rintro e w1 ⟨rfl,hg1⟩;have G2:=h_ (GR.o.trans hg1);clear hg1 cl;go_wp2_with fail;go_roundw
    case rel=>exact⟨k+1,by omega,by rw[hA.o];congr 1;first|(split <;> omega)|omega|(push_cast;rfl)|simp,by go_num,G2.o⟩
    case measure=>simp only[RowKit.intOf];omega
   ·have hke:k=n:=(by omega);subst hke;have hw4:Hid (1+depL (ts.take k)=S):=by
     show _=_;rw[<- HL.o,List.take_length,<- hdp.o]
    have hd1:depL (ts.take k)<=1048576:=(by rw[<- HL.o,List.take_length];exact HD.o);generalize depL (ts.take k)=y at *;clear hW
    as_aux_lemma=>
    go_wp2_with fail;go_ret;exact⟨rInt (by have:=hw4.o;omega),G0.o.trans GR.o⟩
def D4 (o x s b f r t a:Bool) (h:Hd) (n:Nat):Bool:=(o || h.o==0)&&(x || (h.x:Int)==0)&&(s || decide (h.s.toList=[]))&&(b || !h.b)&&(f || h.f==0)&&(r || (h.c1==0&&h.r1==0&&h.p1==R&&h.q1==R))&&(t || (h.c2==0&&h.r2==0&&h.p2==R&&h.q2==R))&&(a || n==0)
end
section
open Go.RowKit
theorem j7w:bits .and .i64 132 1=0:=by kernel_rfl
theorem j7z:bits .and .i64 132 2=0:=by kernel_rfl
theorem j81:bits .and .i64 132 4=4:=by kernel_rfl
theorem j83:bits .and .i64 132 8=0:=by kernel_rfl
theorem j7y:bits .and .i64 132 16=0:=by kernel_rfl
theorem j80:bits .and .i64 132 32=0:=by kernel_rfl
theorem j82:bits .and .i64 132 64=0:=by kernel_rfl
theorem j7x:bits .and .i64 132 128=128:=by kernel_rfl
attribute [local go_sem] j7w j7z j81 j83 j7y j80 j82 j7x
theorem jCp (h:Hd)(n:Nat)(a:Option Addr)(c:Nat)(w:World):
 Calls prog 181 #[h.val (U a n c),O I 132] w fun e w'=>e=Q (E (D4 R R J R R R R J h n))/\Gr w w':=by
 have e1:=L4 h.c1 h.r1 0 0 h.p1 h.q1 R R _ rfl;have e2:=L4 h.c2 h.r2 0 0 h.p2 h.q2 R R _ rfl;have hV:Hid (D4 R R J R R R R J h n=((R || h.o==0)&&(R || (h.x:Int)==0)&&(J || decide (h.s.toList=[]))&&(R || !h.b)&&(R || h.f==0)&&(R || (h.c1==0&&h.r1==0&&h.p1==R&&h.q1==R))&&(R || (h.c2==0&&h.r2==0&&h.p2==R&&h.q2==R))&&(J || n==0))):=rfl;have G0:Hid (∀a b t u,Gr w ((w.alloc (.cells a t)).alloc (.cells b u))):=fun a b t u=>((Gr.refl w).alloc _ _).alloc _ _
 generalize D4 R R J R R R R J h n=V at *;generalize (h.c1==0&&h.r1==0&&h.p1==R&&h.q1==R)=b1 at *;generalize (h.c2==0&&h.r2==0&&h.p2==R&&h.q2==R)=b2 at *;obtain⟨k,o,x,s,b,f,c1,r1,p1,q1,c2,r2,p2,q2⟩:=h;simp only at *;by_cases ho:o=0
 rotate_left
 ·have no:(o==0)=R:=by simpa using ho
  have HE:Hid (V=R):=by show _=_;rw[hV.o];simp[no]
  clear hV;go_enter func181,ntmps181;simp only[List.append_eq,List.cons_append,List.nil_append];go_wp21;go_ret;exact⟨j4 HE.o.symm,G0.o _ _ _ _⟩
 subst ho;by_cases hx:x=0
 rotate_left
 ·have nx:((x:Int)==0)=R:=by simp;exact hx
  have HE:Hid (V=R):=by show _=_;rw[hV.o];simp[hx]
  clear hV;go_enter func181,ntmps181;simp only[List.append_eq,List.cons_append,List.nil_append];go_wp21;go_ret;exact⟨j4 HE.o.symm,G0.o _ _ _ _⟩
 subst hx;cases b
 rotate_left
 ·skip
  have HE:Hid (V=R):=by show _=_;rw[hV.o];simp
  clear hV;go_enter func181,ntmps181;simp only[List.append_eq,List.cons_append,List.nil_append];go_wp21;go_ret;exact⟨j4 HE.o.symm,G0.o _ _ _ _⟩
 by_cases hf:f=0
 rotate_left
 ·have nf:(f==0)=R:=by simpa using hf
  have HE:Hid (V=R):=by show _=_;rw[hV.o];simp[nf]
  clear hV;go_enter func181,ntmps181;simp only[List.append_eq,List.cons_append,List.nil_append];go_wp21;go_ret;exact⟨j4 HE.o.symm,G0.o _ _ _ _⟩
 subst hf;cases b1
 ·skip
  have HE:Hid (V=R):=by show _=_;rw[hV.o];simp
  clear hV;go_enter func181,ntmps181;simp only[List.append_eq,List.cons_append,List.nil_append];go_wp21;go_ret;exact⟨j4 HE.o.symm,G0.o _ _ _ _⟩
 cases b2
 ·skip
  have HE:Hid (V=R):=by show _=_;rw[hV.o];simp
  clear hV;go_enter func181,ntmps181;simp only[List.append_eq,List.cons_append,List.nil_append];go_wp21;go_ret;exact⟨j4 HE.o.symm,G0.o _ _ _ _⟩
 have HE:Hid (V=J):=by show _=_;rw[hV.o];simp
 clear hV;go_enter func181,ntmps181;simp only[List.append_eq,List.cons_append,List.nil_append];go_wp21;go_ret;exact⟨j4 HE.o.symm,G0.o _ _ _ _⟩
end
section
open Go.RowKit
theorem j7o:bits .and .i64 129 1=1:=by kernel_rfl
theorem j7r:bits .and .i64 129 2=0:=by kernel_rfl
theorem j7t:bits .and .i64 129 4=0:=by kernel_rfl
theorem j7v:bits .and .i64 129 8=0:=by kernel_rfl
theorem j7q:bits .and .i64 129 16=0:=by kernel_rfl
theorem j7s:bits .and .i64 129 32=0:=by kernel_rfl
theorem j7u:bits .and .i64 129 64=0:=by kernel_rfl
theorem j7p:bits .and .i64 129 128=128:=by kernel_rfl
attribute [local go_sem] j7o j7r j7t j7v j7q j7s j7u j7p
theorem jCo (h:Hd)(n:Nat)(a:Option Addr)(c:Nat)(w:World):
 Calls prog 181 #[h.val (U a n c),O I 129] w fun e w'=>e=Q (E (D4 J R R R R R R J h n))/\Gr w w':=by
 have e1:=L4 h.c1 h.r1 0 0 h.p1 h.q1 R R _ rfl;have e2:=L4 h.c2 h.r2 0 0 h.p2 h.q2 R R _ rfl;have hV:Hid (D4 J R R R R R R J h n=((J || h.o==0)&&(R || (h.x:Int)==0)&&(R || decide (h.s.toList=[]))&&(R || !h.b)&&(R || h.f==0)&&(R || (h.c1==0&&h.r1==0&&h.p1==R&&h.q1==R))&&(R || (h.c2==0&&h.r2==0&&h.p2==R&&h.q2==R))&&(J || n==0))):=rfl;have G0:Hid (∀a b t u,Gr w ((w.alloc (.cells a t)).alloc (.cells b u))):=fun a b t u=>((Gr.refl w).alloc _ _).alloc _ _
 generalize D4 J R R R R R R J h n=V at *;generalize (h.c1==0&&h.r1==0&&h.p1==R&&h.q1==R)=b1 at *;generalize (h.c2==0&&h.r2==0&&h.p2==R&&h.q2==R)=b2 at *;obtain⟨k,o,x,s,b,f,c1,r1,p1,q1,c2,r2,p2,q2⟩:=h;simp only at *;by_cases hx:x=0
 rotate_left
 ·have nx:((x:Int)==0)=R:=by simp;exact hx
  have HE:Hid (V=R):=by show _=_;rw[hV.o];simp[hx]
  clear hV;go_enter func181,ntmps181;simp only[List.append_eq,List.cons_append,List.nil_append];go_wp21;go_ret;exact⟨j4 HE.o.symm,G0.o _ _ _ _⟩
 subst hx;by_cases hs:s.toList=[]
 rotate_left
 ·have ns:(s.toList==[])=R:=by simpa using hs
  have HE:Hid (V=R):=by show _=_;rw[hV.o];simp[hs]
  clear hV;go_enter func181,ntmps181;simp only[List.append_eq,List.cons_append,List.nil_append];go_wp21;go_ret;exact⟨j4 HE.o.symm,G0.o _ _ _ _⟩
 have ns:(s.toList==[])=J:=by simpa using hs
 cases b
 rotate_left
 ·skip
  have HE:Hid (V=R):=by show _=_;rw[hV.o];simp[hs]
  clear hV;go_enter func181,ntmps181;simp only[List.append_eq,List.cons_append,List.nil_append];go_wp21;go_ret;exact⟨j4 HE.o.symm,G0.o _ _ _ _⟩
 by_cases hf:f=0
 rotate_left
 ·have nf:(f==0)=R:=by simpa using hf
  have HE:Hid (V=R):=by show _=_;rw[hV.o];simp[hs,nf]
  clear hV;go_enter func181,ntmps181;simp only[List.append_eq,List.cons_append,List.nil_append];go_wp21;go_ret;exact⟨j4 HE.o.symm,G0.o _ _ _ _⟩
 subst hf;cases b1
 ·skip
  have HE:Hid (V=R):=by show _=_;rw[hV.o];simp[hs]
  clear hV;go_enter func181,ntmps181;simp only[List.append_eq,List.cons_append,List.nil_append];go_wp21;go_ret;exact⟨j4 HE.o.symm,G0.o _ _ _ _⟩
 cases b2
 ·skip
  have HE:Hid (V=R):=by show _=_;rw[hV.o];simp[hs]
  clear hV;go_enter func181,ntmps181;simp only[List.append_eq,List.cons_append,List.nil_append];go_wp21;go_ret;exact⟨j4 HE.o.symm,G0.o _ _ _ _⟩
 have HE:Hid (V=J):=by show _=_;rw[hV.o];simp[hs]
 clear hV;go_enter func181,ntmps181;simp only[List.append_eq,List.cons_append,List.nil_append];go_wp21;go_ret;exact⟨j4 HE.o.symm,G0.o _ _ _ _⟩
end
section
open Go.RowKit
theorem j8i:bits .and .i64 96 1=0:=by kernel_rfl
theorem j8l:bits .and .i64 96 2=0:=by kernel_rfl
theorem j8n:bits .and .i64 96 4=0:=by kernel_rfl
theorem j8p:bits .and .i64 96 8=0:=by kernel_rfl
theorem j8k:bits .and .i64 96 16=0:=by kernel_rfl
theorem j8m:bits .and .i64 96 32=32:=by kernel_rfl
theorem j8o:bits .and .i64 96 64=64:=by kernel_rfl
theorem j8j:bits .and .i64 96 128=0:=by kernel_rfl
attribute [local go_sem] j8i j8l j8n j8p j8k j8m j8o j8j
theorem jCv (h:Hd)(n:Nat)(a:Option Addr)(c:Nat)(w:World):
 Calls prog 181 #[h.val (U a n c),O I 96] w fun e w'=>e=Q (E (D4 R R R R R J J R h n))/\Gr w w':=by
 have e1:=L4 h.c1 h.r1 0 0 h.p1 h.q1 R R _ rfl;have e2:=L4 h.c2 h.r2 0 0 h.p2 h.q2 R R _ rfl;have hV:Hid (D4 R R R R R J J R h n=((R || h.o==0)&&(R || (h.x:Int)==0)&&(R || decide (h.s.toList=[]))&&(R || !h.b)&&(R || h.f==0)&&(J || (h.c1==0&&h.r1==0&&h.p1==R&&h.q1==R))&&(J || (h.c2==0&&h.r2==0&&h.p2==R&&h.q2==R))&&(R || n==0))):=rfl;have G0:Hid (∀a b t u,Gr w ((w.alloc (.cells a t)).alloc (.cells b u))):=fun a b t u=>((Gr.refl w).alloc _ _).alloc _ _
 generalize D4 R R R R R J J R h n=V at *;generalize (h.c1==0&&h.r1==0&&h.p1==R&&h.q1==R)=b1 at *;generalize (h.c2==0&&h.r2==0&&h.p2==R&&h.q2==R)=b2 at *;obtain⟨k,o,x,s,b,f,c1,r1,p1,q1,c2,r2,p2,q2⟩:=h;simp only at *;by_cases ho:o=0
 rotate_left
 ·have no:(o==0)=R:=by simpa using ho
  have HE:Hid (V=R):=by show _=_;rw[hV.o];simp[no]
  clear hV;go_enter func181,ntmps181;simp only[List.append_eq,List.cons_append,List.nil_append];go_wp21;go_ret;exact⟨j4 HE.o.symm,G0.o _ _ _ _⟩
 subst ho;by_cases hx:x=0
 rotate_left
 ·have nx:((x:Int)==0)=R:=by simp;exact hx
  have HE:Hid (V=R):=by show _=_;rw[hV.o];simp[hx]
  clear hV;go_enter func181,ntmps181;simp only[List.append_eq,List.cons_append,List.nil_append];go_wp21;go_ret;exact⟨j4 HE.o.symm,G0.o _ _ _ _⟩
 subst hx;by_cases hs:s.toList=[]
 rotate_left
 ·have ns:(s.toList==[])=R:=by simpa using hs
  have HE:Hid (V=R):=by show _=_;rw[hV.o];simp[hs]
  clear hV;go_enter func181,ntmps181;simp only[List.append_eq,List.cons_append,List.nil_append];go_wp21;go_ret;exact⟨j4 HE.o.symm,G0.o _ _ _ _⟩
 have ns:(s.toList==[])=J:=by simpa using hs
 cases b
 rotate_left
 ·skip
  have HE:Hid (V=R):=by show _=_;rw[hV.o];simp[hs]
  clear hV;go_enter func181,ntmps181;simp only[List.append_eq,List.cons_append,List.nil_append];go_wp21;go_ret;exact⟨j4 HE.o.symm,G0.o _ _ _ _⟩
 by_cases hf:f=0
 rotate_left
 ·have nf:(f==0)=R:=by simpa using hf
  have HE:Hid (V=R):=by show _=_;rw[hV.o];simp[hs,nf]
  clear hV;go_enter func181,ntmps181;simp only[List.append_eq,List.cons_append,List.nil_append];go_wp21;go_ret;exact⟨j4 HE.o.symm,G0.o _ _ _ _⟩
 subst hf;by_cases hn:n=0
 rotate_left
 ·have nn:((n:Int)==0)=R:=by simp;exact hn
  have HE:Hid (V=R):=by show _=_;rw[hV.o];simp[hs,hn]
  clear hV;go_enter func181,ntmps181;simp only[List.append_eq,List.cons_append,List.nil_append];go_wp21;go_ret;exact⟨j4 HE.o.symm,G0.o _ _ _ _⟩
 subst hn;have HE:Hid (V=J):=by show _=_;rw[hV.o];simp[hs]
 clear hV;go_enter func181,ntmps181;simp only[List.append_eq,List.cons_append,List.nil_append];go_wp21;go_ret;exact⟨j4 HE.o.symm,G0.o _ _ _ _⟩
end
section
open Go.RowKit
theorem j8S:bits .and .i64 4 1=0:=by kernel_rfl
theorem j8V:bits .and .i64 4 2=0:=by kernel_rfl
theorem j8X:bits .and .i64 4 4=4:=by kernel_rfl
theorem j8Z:bits .and .i64 4 8=0:=by kernel_rfl
theorem j8U:bits .and .i64 4 16=0:=by kernel_rfl
theorem j8W:bits .and .i64 4 32=0:=by kernel_rfl
theorem j8Y:bits .and .i64 4 64=0:=by kernel_rfl
theorem j8T:bits .and .i64 4 128=0:=by kernel_rfl
attribute [local go_sem] j8S j8V j8X j8Z j8U j8W j8Y j8T
theorem jCt (h:Hd)(n:Nat)(a:Option Addr)(c:Nat)(w:World):
 Calls prog 181 #[h.val (U a n c),O I 4] w fun e w'=>e=Q (E (D4 R R J R R R R R h n))/\Gr w w':=by
 have e1:=L4 h.c1 h.r1 0 0 h.p1 h.q1 R R _ rfl;have e2:=L4 h.c2 h.r2 0 0 h.p2 h.q2 R R _ rfl;have hV:Hid (D4 R R J R R R R R h n=((R || h.o==0)&&(R || (h.x:Int)==0)&&(J || decide (h.s.toList=[]))&&(R || !h.b)&&(R || h.f==0)&&(R || (h.c1==0&&h.r1==0&&h.p1==R&&h.q1==R))&&(R || (h.c2==0&&h.r2==0&&h.p2==R&&h.q2==R))&&(R || n==0))):=rfl;have G0:Hid (∀a b t u,Gr w ((w.alloc (.cells a t)).alloc (.cells b u))):=fun a b t u=>((Gr.refl w).alloc _ _).alloc _ _
 generalize D4 R R J R R R R R h n=V at *;generalize (h.c1==0&&h.r1==0&&h.p1==R&&h.q1==R)=b1 at *;generalize (h.c2==0&&h.r2==0&&h.p2==R&&h.q2==R)=b2 at *;obtain⟨k,o,x,s,b,f,c1,r1,p1,q1,c2,r2,p2,q2⟩:=h;simp only at *;by_cases ho:o=0
 rotate_left
 ·have no:(o==0)=R:=by simpa using ho
  have HE:Hid (V=R):=by show _=_;rw[hV.o];simp[no]
  clear hV;go_enter func181,ntmps181;simp only[List.append_eq,List.cons_append,List.nil_append];go_wp21;go_ret;exact⟨j4 HE.o.symm,G0.o _ _ _ _⟩
 subst ho;by_cases hx:x=0
 rotate_left
 ·have nx:((x:Int)==0)=R:=by simp;exact hx
  have HE:Hid (V=R):=by show _=_;rw[hV.o];simp[hx]
  clear hV;go_enter func181,ntmps181;simp only[List.append_eq,List.cons_append,List.nil_append];go_wp21;go_ret;exact⟨j4 HE.o.symm,G0.o _ _ _ _⟩
 subst hx;cases b
 rotate_left
 ·skip
  have HE:Hid (V=R):=by show _=_;rw[hV.o];simp
  clear hV;go_enter func181,ntmps181;simp only[List.append_eq,List.cons_append,List.nil_append];go_wp21;go_ret;exact⟨j4 HE.o.symm,G0.o _ _ _ _⟩
 by_cases hf:f=0
 rotate_left
 ·have nf:(f==0)=R:=by simpa using hf
  have HE:Hid (V=R):=by show _=_;rw[hV.o];simp[nf]
  clear hV;go_enter func181,ntmps181;simp only[List.append_eq,List.cons_append,List.nil_append];go_wp21;go_ret;exact⟨j4 HE.o.symm,G0.o _ _ _ _⟩
 subst hf;cases b1
 ·skip
  have HE:Hid (V=R):=by show _=_;rw[hV.o];simp
  clear hV;go_enter func181,ntmps181;simp only[List.append_eq,List.cons_append,List.nil_append];go_wp21;go_ret;exact⟨j4 HE.o.symm,G0.o _ _ _ _⟩
 cases b2
 ·skip
  have HE:Hid (V=R):=by show _=_;rw[hV.o];simp
  clear hV;go_enter func181,ntmps181;simp only[List.append_eq,List.cons_append,List.nil_append];go_wp21;go_ret;exact⟨j4 HE.o.symm,G0.o _ _ _ _⟩
 by_cases hn:n=0
 rotate_left
 ·have nn:((n:Int)==0)=R:=by simp;exact hn
  have HE:Hid (V=R):=by show _=_;rw[hV.o];simp[hn]
  clear hV;go_enter func181,ntmps181;simp only[List.append_eq,List.cons_append,List.nil_append];go_wp21;go_ret;exact⟨j4 HE.o.symm,G0.o _ _ _ _⟩
 subst hn;have HE:Hid (V=J):=by show _=_;rw[hV.o];simp
 clear hV;go_enter func181,ntmps181;simp only[List.append_eq,List.cons_append,List.nil_append];go_wp21;go_ret;exact⟨j4 HE.o.symm,G0.o _ _ _ _⟩
end
section
open Go.RowKit
def j21 (h:Hd) (n:Nat) (f u:Bool):Bool:=
 if h.k=1 then D4 R J R R R R R R h n&&f else
 if h.k=2 then D4 R R J R R R R R h n&&u&&decide (h.s.size<=1024) else
 if h.k=3 then D4 R R R J R R R R h n else
 if h.k=4 then D4 R R R R J R R R h n&&decide (1<=h.f)&&decide (h.f<=5) else
 if h.k=5 then D4 R R R R R J R R h n else
 if h.k=6 then D4 R R R R R J J R h n else
 if h.k=7 then D4 J R R R R R R J h n&&decide (1<=h.o)&&decide (h.o<=3)&&n==1 else
 if h.k=8 then D4 J R R R R R R J h n&&decide (4<=h.o)&&decide (h.o<=15)&&n==2 else
 if h.k=9 then D4 R R J R R R R J h n else R
theorem j0f (x:Nat):L0 x x=J:=by unfold L0;simp
theorem jB9 (h:Hd)(n:Nat):j21 h n (O9 h.x) (Lib.validD h.s.data.toList)=wm h n:=by
 have e0:(ByteArray.mk #[]).toList=[]:=ByteArray.toList_mk [];obtain⟨k,o,x,s,b,f,c1,r1,p1,q1,c2,r2,p2,q2⟩:=h;unfold j21 wm wmJ;simp only;generalize O9 x=P;generalize Lib.validD s.data.toList=aj;by_cases k1:k=1
 ·subst k1;simp[D4,j9,zHd,j0f,e0];try (rw[Bool.eq_iff_iff];simp;constructor <;> (intro h;simp_all))
 by_cases k2:k=2
 ·subst k2;simp[D4,j9,zHd,U9];try (rw[Bool.eq_iff_iff];simp;constructor <;> (intro h;simp_all))
 by_cases k3:k=3
 ·subst k3;simp[D4,j9,zHd,U9,e0];try (rw[Bool.eq_iff_iff];simp;constructor <;> (intro h;simp_all))
 by_cases k4:k=4
 ·subst k4;simp[D4,j9,zHd,U9,e0];try (rw[Bool.eq_iff_iff];simp;constructor <;> (intro h;simp_all))
 by_cases k5:k=5
 ·subst k5;simp[D4,j9,zHd,U9,e0];try (rw[Bool.eq_iff_iff];simp;constructor <;> (intro h;simp_all))
 by_cases k6:k=6
 ·subst k6;simp[D4,j9,zHd,U9,e0];try (rw[Bool.eq_iff_iff];simp;constructor <;> (intro h;simp_all))
 by_cases k7:k=7
 ·subst k7;simp[D4,j9,zHd,U9,e0];try (rw[Bool.eq_iff_iff];simp;constructor <;> (intro h;simp_all))
 by_cases k8:k=8
 ·subst k8;simp[D4,j9,zHd,U9,e0];try (rw[Bool.eq_iff_iff];simp;constructor <;> (intro h;simp_all))
 by_cases k9:k=9
 ·subst k9;simp[D4,j9,zHd,U9];try (rw[Bool.eq_iff_iff];simp;constructor <;> (intro h;simp_all[j0f,U9]))
 simp[k1,k2,k3,k4,k5,k6,k7,k8,k9]
end
section
open Go.RowKit
theorem j8C:bits .and .i64 2 1=0:=by kernel_rfl
theorem j8F:bits .and .i64 2 2=2:=by kernel_rfl
theorem j8H:bits .and .i64 2 4=0:=by kernel_rfl
theorem j8J:bits .and .i64 2 8=0:=by kernel_rfl
theorem j8E:bits .and .i64 2 16=0:=by kernel_rfl
theorem j8G:bits .and .i64 2 32=0:=by kernel_rfl
theorem j8I:bits .and .i64 2 64=0:=by kernel_rfl
theorem j8D:bits .and .i64 2 128=0:=by kernel_rfl
attribute [local go_sem] j8C j8F j8H j8J j8E j8G j8I j8D
theorem jCr (h:Hd)(n:Nat)(a:Option Addr)(c:Nat)(w:World):
 Calls prog 181 #[h.val (U a n c),O I 2] w fun e w'=>e=Q (E (D4 R J R R R R R R h n))/\Gr w w':=by
 have e1:=L4 h.c1 h.r1 0 0 h.p1 h.q1 R R _ rfl;have e2:=L4 h.c2 h.r2 0 0 h.p2 h.q2 R R _ rfl;have hV:Hid (D4 R J R R R R R R h n=((R || h.o==0)&&(J || (h.x:Int)==0)&&(R || decide (h.s.toList=[]))&&(R || !h.b)&&(R || h.f==0)&&(R || (h.c1==0&&h.r1==0&&h.p1==R&&h.q1==R))&&(R || (h.c2==0&&h.r2==0&&h.p2==R&&h.q2==R))&&(R || n==0))):=rfl;have G0:Hid (∀a b t u,Gr w ((w.alloc (.cells a t)).alloc (.cells b u))):=fun a b t u=>((Gr.refl w).alloc _ _).alloc _ _
 generalize D4 R J R R R R R R h n=V at *;generalize (h.c1==0&&h.r1==0&&h.p1==R&&h.q1==R)=b1 at *;generalize (h.c2==0&&h.r2==0&&h.p2==R&&h.q2==R)=b2 at *;obtain⟨k,o,x,s,b,f,c1,r1,p1,q1,c2,r2,p2,q2⟩:=h;simp only at *;by_cases ho:o=0
 rotate_left
 ·have no:(o==0)=R:=by simpa using ho
  have HE:Hid (V=R):=by show _=_;rw[hV.o];simp[no]
  clear hV;go_enter func181,ntmps181;simp only[List.append_eq,List.cons_append,List.nil_append];go_wp21;go_ret;exact⟨j4 HE.o.symm,G0.o _ _ _ _⟩
 subst ho;by_cases hs:s.toList=[]
 rotate_left
 ·have ns:(s.toList==[])=R:=by simpa using hs
  have HE:Hid (V=R):=by show _=_;rw[hV.o];simp[hs]
  clear hV;go_enter func181,ntmps181;simp only[List.append_eq,List.cons_append,List.nil_append];go_wp21;go_ret;exact⟨j4 HE.o.symm,G0.o _ _ _ _⟩
 have ns:(s.toList==[])=J:=by simpa using hs
 cases b
 rotate_left
 ·skip
  have HE:Hid (V=R):=by show _=_;rw[hV.o];simp[hs]
  clear hV;go_enter func181,ntmps181;simp only[List.append_eq,List.cons_append,List.nil_append];go_wp21;go_ret;exact⟨j4 HE.o.symm,G0.o _ _ _ _⟩
 by_cases hf:f=0
 rotate_left
 ·have nf:(f==0)=R:=by simpa using hf
  have HE:Hid (V=R):=by show _=_;rw[hV.o];simp[hs,nf]
  clear hV;go_enter func181,ntmps181;simp only[List.append_eq,List.cons_append,List.nil_append];go_wp21;go_ret;exact⟨j4 HE.o.symm,G0.o _ _ _ _⟩
 subst hf;cases b1
 ·skip
  have HE:Hid (V=R):=by show _=_;rw[hV.o];simp[hs]
  clear hV;go_enter func181,ntmps181;simp only[List.append_eq,List.cons_append,List.nil_append];go_wp21;go_ret;exact⟨j4 HE.o.symm,G0.o _ _ _ _⟩
 cases b2
 ·skip
  have HE:Hid (V=R):=by show _=_;rw[hV.o];simp[hs]
  clear hV;go_enter func181,ntmps181;simp only[List.append_eq,List.cons_append,List.nil_append];go_wp21;go_ret;exact⟨j4 HE.o.symm,G0.o _ _ _ _⟩
 by_cases hn:n=0
 rotate_left
 ·have nn:((n:Int)==0)=R:=by simp;exact hn
  have HE:Hid (V=R):=by show _=_;rw[hV.o];simp[hs,hn]
  clear hV;go_enter func181,ntmps181;simp only[List.append_eq,List.cons_append,List.nil_append];go_wp21;go_ret;exact⟨j4 HE.o.symm,G0.o _ _ _ _⟩
 subst hn;have HE:Hid (V=J):=by show _=_;rw[hV.o];simp[hs]
 clear hV;go_enter func181,ntmps181;simp only[List.append_eq,List.cons_append,List.nil_append];go_wp21;go_ret;exact⟨j4 HE.o.symm,G0.o _ _ _ _⟩
end
end Go.Proofs.YtecjfnkakodebaaGreatDoor
