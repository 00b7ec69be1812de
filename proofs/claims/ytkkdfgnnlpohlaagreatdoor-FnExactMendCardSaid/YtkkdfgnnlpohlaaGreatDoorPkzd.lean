import Derived.Test.YtkkdfgnnlpohlaaGreatDoorPkzb
import Derived.Test.YtkkdfgnnlpohlaaGreatDoorPkza
import Derived.Test.YtkkdfgnnlpohlaaGreatDoorPkzc
namespace Go.Proofs.YtkkdfgnnlpohlaaGreatDoor
set_option maxRecDepth 20000
set_option linter.unusedVariables false
set_option linter.unusedSimpArgs false
set_option maxHeartbeats 4000000
open Go.RowKit Go.Proofs.Tryz
variable {W X Y w w' w0 wr : World} {A B at_ b b2 base' c cap e f g go gs hi i j k lo m n s u val z : Nat} {E G I J K L M N O u0 u1 u2 v0 v1 v2 v3 v4 v5 v6 x y : Value} {o : Oper} {Q : Exit → Act → World → Prop} {cs tmps : Array Value} {t : TypeId} {p : Addr} {l : List Nat} {bvs xs : List Value} {a : List UInt8} {first ok : Bool}
theorem AC{m:FM}:∀{fs:List FM},(jj iD m fs).map (List.map FM.x)=jj XM.uid m.x (fs.map FM.x)
 |[]=>rfl
 |x::r=>by
  have E:=AC (m:=m) (fs:=r);simp only[Pe];unfold jj;by_cases z:iD x=iD m
  ·rw[OS z,OS (show x.x.uid=m.x.uid from z)];rfl
  ·rw[OR z,OR (show¬x.x.uid=m.x.uid from z)];by_cases A:iD m<iD x
   ·rw[OS A,OS (show m.x.uid<x.x.uid from A)];rfl
   ·rw[OR A,OR (show¬m.x.uid<x.x.uid from A),←E];cases jj iD m r<;>rfl
theorem tz{n:Nat}:∀{xs:List (List UInt8)} {last:Nat} {ds r:LN},fG n xs last ds=some r→r.length≤ds.length+xs.length
 |[],_,ds,r,h=>by simp only[fG,OY] at h;subst h;simp
 |x::xs,last,ds,r,h=>by
  unfold fG at h;cases hn:dT x (last+1) (n-1) with
  |none=>rw[hn] at h;cases h
  |some u=>
   rw[hn] at h;have:=tz (ds:=ds++[u]) h;simp at this⊢;omega
theorem vo{first:Bool}{ws:List (List UInt8)}{s s':UX}(h:d9 first ws s=some s')(G:first=false→1≤s.next∧s.next≤4294967295):s'.dead.length≤s.dead.length+ws.length∧1≤s'.next∧s'.next≤4294967295:=by
 unfold d9 at h;cases first with
 |true=>
  rw[OS rfl] at h;unfold kD at h;split at h
  ·next a b c=>
   by_cases z:a=[86]
   ·rw[OS z] at h;cases h1:dT b 1 gH with
    |none=>rw[h1] at h;cases h
    |some v=>
     cases h2:dT c 1 gH with
     |none=>rw[h1,h2] at h;cases h
     |some n=>
      rw[h1,h2] at h;simp only[OY] at h;subst h;have:=ey h2;exact⟨by simp,this.1,this.2⟩
   ·rw[OR z] at h;cases h
  ·cases h
 |false=>
  rw[OR (by simp)] at h;unfold oZ at h;split at h
  ·next a b x xs=>
   by_cases z:a=[88]
   ·rw[OS z] at h;cases h1:dT b s.next gH with
    |none=>rw[h1] at h;cases h
    |some n=>
     rw[h1] at h;simp only at h;cases h2:fG n (x::xs) 0 s.dead with
     |none=>rw[h2] at h;cases h
     |some ds=>
      rw[h2] at h;simp only[OY] at h;subst h;have A:=ey h1;have E:=tz h2;have I:=G rfl;refine⟨by simp at E⊢;omega,by simp only;omega,A.2⟩
   ·rw[OR z] at h;cases h
  ·cases h
structure l5(s:IX):Prop where
 len:s.mails.length≤100
 size:∀m∈s.mails,m.size≤40000
 rise:(s.mails.map (·.uid)).Pairwise (·<·)
 bare:∀m∈s.mails,m.bare≤1
 stamp:∀m∈s.mails,m.stamp≤1000000000000
 flags:∀m∈s.mails,m.flags≤2147483647
 uid:∀m∈s.mails,1≤m.uid∧m.uid≤4294967294
 gen:s.gen≤99999
theorem ph{first:Bool}{ws:List (List UInt8)}{s s':IX}(h:dV first ws s=some s')(A:l5 s):l5 s':=by
 unfold dV at h;cases first with
 |true=>
  rw[OS rfl] at h;unfold kv at h;split at h
  ·next a b c d=>
   by_cases Q:a=[86]
   ·rw[OS Q] at h;cases h1:dT b 1 gH with
    |none=>rw[h1] at h;cases h
    |some v=>
     cases h2:dT c 1 gH with
     |none=>rw[h1,h2] at h;cases h
     |some n=>
      cases h3:dT d 0 99999 with
      |none=>rw[h1,h2,h3] at h;cases h
      |some g=>
       rw[h1,h2,h3] at h;simp only[OY] at h;subst h;exact⟨A.len,A.size,A.rise,A.bare,A.stamp,A.flags,A.uid,(ey h3).2⟩
   ·rw[OR Q] at h;cases h
  ·cases h
 |false=>
  rw[OR (by simp)] at h;unfold nh at h;split at h
  ·unfold pg at h;split at h
   ·next _ b c _=>
    cases h1:dT b 1 gH with
    |none=>rw[h1] at h;cases h
    |some u=>
     cases h2:dT c 0 2147483647 with
     |none=>rw[h1,h2] at h;cases h
     |some f=>
      rw[h1,h2] at h;simp only at h;cases h3:jB s.mails u with
      |none=>rw[h3] at h;cases h
      |some i=>
       rw[h3] at h;simp only[OY] at h;subst h;have I:∀m∈s.mails.modify i (fun m=>{m with flags:=f}),∃J∈s.mails,m=J∨m={J with flags:=f}:=by
        intro m E;obtain⟨k,U,rfl⟩:=PT.1 E;have M:k<s.mails.length:=(by simpa using U);rw[List.getElem_modify];split
        ·exact⟨_,O6 M,Or.inr rfl⟩
        ·exact⟨_,O6 M,Or.inl rfl⟩
       have Z:(s.mails.modify i (fun m=>{m with flags:=f})).map (·.uid)=s.mails.map (·.uid):=by
        apply List.ext_getElem
        ·simp
        ·intro k k1 k2;rw[Po,Po,List.getElem_modify];split<;>rfl
       refine⟨by simpa using A.len,?_,by rw[Z];exact A.rise,?_,?_,?_,?_,A.gen⟩
       ·intro m E;obtain⟨J,G,rfl|rfl⟩:=I m E
        ·exact A.size _ G
        ·exact A.size J G
       ·intro m E;obtain⟨J,G,rfl|rfl⟩:=I m E
        ·exact A.bare _ G
        ·exact A.bare J G
       ·intro m E;obtain⟨J,G,rfl|rfl⟩:=I m E
        ·exact A.stamp _ G
        ·exact A.stamp J G
       ·intro m E;obtain⟨J,G,rfl|rfl⟩:=I m E
        ·exact A.flags _ G
        ·exact(ey h2).2
       ·intro m E;obtain⟨J,G,rfl|rfl⟩:=I m E
        ·exact A.uid _ G
        ·exact A.uid J G
   ·cases h
  ·split at h
   ·next hc=>
    unfold iQ at h;split at h
    ·next _ b c d e f _=>
     cases h1:dT b 1 (gH-1) with
     |none=>rw[h1] at h;cases h
     |some u=>
      cases h2:dT c 0 1000000000000 with
      |none=>rw[h1,h2] at h;cases h
      |some t=>
       cases h3:dT d 0 2147483647 with
       |none=>rw[h1,h2,h3] at h;cases h
       |some fl=>
        cases h4:dT e 0 40000 with
        |none=>rw[h1,h2,h3,h4] at h;cases h
        |some n=>
         cases h5:dT f 0 1 with
         |none=>rw[h1,h2,h3,h4,h5] at h;cases h
         |some br=>
          rw[h1,h2,h3,h4,h5] at h;simp only at h;by_cases L:lB s.mails u=true
          ·rw[OS L] at h;simp only[OY] at h;subst h;have I:∀(p:IM→Prop),(∀m∈s.mails,p m)→p ⟨u,t,fl,n,br⟩→∀m∈s.mails++[⟨u,t,fl,n,br⟩],p m:=by
            intro p V Y m E;rcases Pj.1 E with E|E
            ·exact V m E
            ·rw[Ph] at E;subst E;exact Y
           have b1:=ey h1;refine⟨by simp;omega,I _ A.size (ey h4).2,?_,I _ A.bare (ey h5).2,I _ A.stamp (ey h2).2,I _ A.flags (ey h3).2,I _ A.uid ⟨b1.1,b1.2⟩,A.gen⟩;rw[O7,PS];refine⟨A.rise,List.pairwise_singleton _ _,?_⟩;intro x K y R;simp only[Pe,PD,Ph] at R;subst R;unfold lB at L;cases hg:s.mails.getLast? with
           |none=>
            rw[List.getLast?_eq_none_iff] at hg;rw[hg] at K;cases K
           |some z=>
            rw[hg] at L;simp only[decide_eq_true_eq] at L;obtain⟨aa,N⟩:=List.getLast?_eq_some_iff.1 hg;have O:=A.rise;rw[N,O7,PS] at O;rw[N,O7] at K;rcases Pj.1 K with K|K
            ·have:=O.2.2 x K z.uid (by simp);omega
            ·simp only[Pe,PD,Ph] at K;omega
          ·rw[OR L] at h;cases h
    ·cases h
   ·cases h
theorem I7:l5 ⟨0,0,0,[]⟩:=⟨by simp,by simp,List.Pairwise.nil,by simp,by simp,by simp,by simp,by simp⟩
theorem He{z:List (LN)}{s s':UX}(h:j<z.length)(e:d9 first (gK z[j]) s=some s'):qs first (z.drop j) s=qs false (z.drop (j+1)) s':=by
 rw[fP z j h,qs,e]
theorem Mk{z:List (LN)}{s:UX}(h:j<z.length)(e:d9 first (gK z[j]) s=none):qs first (z.drop j) s=none:=by
 rw[fP z j h,qs,e]
theorem FW{z:List (LN)}{s s':IX}(h:j<z.length)(e:dV first (gK z[j]) s=some s'):pN first (z.drop j) s=pN false (z.drop (j+1)) s':=by
 rw[fP z j h,pN,e]
theorem Lg{z:List (LN)}{s:IX}(h:j<z.length)(e:dV first (gK z[j]) s=none):pN first (z.drop j) s=none:=by
 rw[fP z j h,pN,e]
theorem G7(z:List (LN))(j:Nat)(h:j<z.length):kB (z.take (j+1))=kB (z.take j)+z[j].length:=by
 rw[fD z j h,nZ];simp[kB]
theorem Fa(z:List (LN)):∀j,j≤z.length→kB (z.take j)≤kB z:=fun j _=>by
 have h:=nZ (z.take j) (z.drop j);rw[Pz] at h;omega
structure TxR(w:World)(a:OA)(c:Nat)(d:LN):Prop where
 row:dW w a d
 room:d.length≤c
 cap:c≤9223372036854775807
 spot:∀p,a=some p→p.spot=none
theorem TxL.r{a:OA}{d:LN}(h:TxL w z a c d):TxR w a c d:=⟨h.row,h.room,h.cap,fun p A=>(h.ap p A).1⟩
theorem TxR.below{a:OA}{d:LN}(h:TxR w a c d)(z:Below w.heap.size w w'):TxR w' a c d:=⟨h.row.below z,h.room,h.cap,h.spot⟩
def RdV(w:World)(base:Nat)(s:SX)(v:Value):Prop:=∃(ma:OA) (mn mc:Nat) (da:OA) (dn dc:Nat) (fs:List FM),v= .agg #[.int .i64 s.code,.int .i64 s.kind,.int .u32 (s.val:Int),.int .u32 (s.next:Int),.int .u32 (s.cur:Int),.int .i64 (s.gen:Int),.int .i64 (s.taken:Int),.slice ma mn mc,.slice da dn dc]∧fs.map FM.x=s.mails∧dM w base 108 11 (.slice ma mn mc) (fs.map mlF)∧(∀m∈fs,TxR w m.ba m.bc m.x.body∧TxR w m.ea m.ec m.x.entry)∧kK w base (.slice da dn dc) s.dead
theorem RdV.below{s:SX}{v:Value}(h:RdV w A s v)(z:Below w.heap.size w w'):RdV w' A s v:=by
 obtain⟨Q,U,R,I,K,J,fs,L,M,N,E,O⟩:=h;exact⟨Q,U,R,I,K,J,fs,L,M,dM.below N z (OV _),fun m G=>⟨(E m G).1.below z,(E m G).2.below z⟩,dM.below O z (OV _)⟩
theorem RdV.mono{s:SX}{v:Value}(h:RdV w z s v)(A:base'≤z):RdV w base' s v:=by
 obtain⟨O,R,Q,E,I,G,fs,J,K,L,M,N⟩:=h;exact⟨O,R,Q,E,I,G,fs,J,K,dM.mono L A,M,dM.mono N A⟩
theorem it(w:World)(z:Nat)(c:Int):RdV w z (gL c) (.agg #[.int .i64 c,.int .i64 0,.int .u32 0,.int .u32 0,.int .u32 0,.int .i64 0,.int .i64 0,sN,sN]):=
 ⟨none,0,0,none,0,0,[],rfl,rfl,dM.nil _ _ _ _,(fun m A=>by cases A),dM.nil _ _ _ _⟩
def Cs(s:SX)(w:World)(e:Ending)(w':World):Prop:=∃v,e= .returned v∧RdV w' w.heap.size s v∧Below w.heap.size w w'
abbrev zst(c k:Int):Array Value:= #[.int .i64 c,.int .i64 k,.int .u32 0,.int .u32 0,.int .u32 0,.int .i64 0,.int .i64 0,sN,sN]
theorem NL(w:World)(A B C E:Array Value)(z G I J:TypeId):
  Blk ((((w.alloc (.cells A z)).alloc (.cells B G)).alloc (.cells C I)).alloc (.cells E J)) w.heap.size A z∧Blk ((((w.alloc (.cells A z)).alloc (.cells B G)).alloc (.cells C I)).alloc (.cells E J)) (w.heap.size+1) B G∧Blk ((((w.alloc (.cells A z)).alloc (.cells B G)).alloc (.cells C I)).alloc (.cells E J)) (w.heap.size+2) C I∧Blk ((((w.alloc (.cells A z)).alloc (.cells B G)).alloc (.cells C I)).alloc (.cells E J)) (w.heap.size+3) E J∧Below w.heap.size w ((((w.alloc (.cells A z)).alloc (.cells B G)).alloc (.cells C I)).alloc (.cells E J))∧((((w.alloc (.cells A z)).alloc (.cells B G)).alloc (.cells C I)).alloc (.cells E J)).heap.size=w.heap.size+4:=by
 obtain⟨K,L,M,R⟩:=sj w A B z G;generalize (w.alloc (.cells A z)).alloc (.cells B G)=W at K L M R;obtain⟨O,Q,N,U⟩:=sj W C E I J;rw[R] at O Q;exact⟨K.below N K.lt,L.below N L.lt,O,Q,M.trans (N.mono M.size),by omega⟩
abbrev xB(W:World)(g:Nat)(v0 v1 v2 v3 v4 v5 v6 v7 v8:Value):World:=(((((((((W.setCell ⟨g,0,none⟩ v0).setCell ⟨g,1,none⟩ v1).setCell ⟨g,2,none⟩ v2).setCell ⟨g,3,none⟩ v3).setCell ⟨g,4,none⟩ v4).setCell ⟨g,5,none⟩ v5).setCell ⟨g,6,none⟩ v6).setCell ⟨g,7,none⟩ v7).setCell ⟨g,8,none⟩ v8)
theorem mH{z A v7 v8:Value}(h:Blk W g #[z,A,E,G,I,J,K,L,M] t):Blk (xB W g v0 v1 v2 v3 v4 v5 v6 v7 v8) g #[v0,v1,v2,v3,v4,v5,v6,v7,v8] t:=by
 have:=(((((((((h.set 0 v0).set 1 v1).set 2 v2).set 3 v3).set 4 v4).set 5 v5).set 6 v6).set 7 v7).set 8 v8)
 simpa using this
theorem eH{v7 v8:Value}(h:Below w.heap.size w W)(z:w.heap.size≤g):Below w.heap.size w (xB W g v0 v1 v2 v3 v4 v5 v6 v7 v8):=
 ((((((((h.setCell (p:=⟨g,0,none⟩) z v0).setCell (p:=⟨g,1,none⟩) z v1).setCell (p:=⟨g,2,none⟩) z v2).setCell (p:=⟨g,3,none⟩) z v3).setCell (p:=⟨g,4,none⟩) z v4).setCell (p:=⟨g,5,none⟩) z v5).setCell (p:=⟨g,6,none⟩) z v6).setCell (p:=⟨g,7,none⟩) z v7).setCell (p:=⟨g,8,none⟩) z v8
theorem jk{v7 v8:Value}(z:b≠g):(xB W g v0 v1 v2 v3 v4 v5 v6 v7 v8).heap[b]? =W.heap[b]? :=by
 unfold xB;iterate 9 rw[OQ _ _ b _ (by simpa using z)]
theorem eQ{fn:Func}{p:Tmp}(B:Nat)(W:World)(v0 v1 v2 v3 v4 v5 v6 v7 v8:Value)(A:fn.results= #[.cell p 48])(E:tmps.getD p undef=pP B)(z:Blk W B #[v0,v1,v2,v3,v4,v5,v6,v7,v8] 48):
  (results fn tmps).run prog W= .ok (.agg #[v0,v1,v2,v3,v4,v5,v6,v7,v8]) W:=results_cell_row (P:=prog) A _ _ B _ _ _ _ E z underlying48 rfl (by kernel_rfl)
abbrev DY(W:World)(g:Nat)(v0 v1 v2 v3 v4 v5 v6 v7 v8 v9 v10:Value):World:=(((((((((((W.setCell ⟨g,0,none⟩ v0).setCell ⟨g,1,none⟩ v1).setCell ⟨g,2,none⟩ v2).setCell ⟨g,3,none⟩ v3).setCell ⟨g,4,none⟩ v4).setCell ⟨g,5,none⟩ v5).setCell ⟨g,6,none⟩ v6).setCell ⟨g,7,none⟩ v7).setCell ⟨g,8,none⟩ v8).setCell ⟨g,9,none⟩ v9).setCell ⟨g,10,none⟩ v10)
theorem N3{A z v7 v8 v9 v10:Value}(h:Blk W g #[A,E,G,I,J,K,L,M,N,O,z] t):Blk (DY W g v0 v1 v2 v3 v4 v5 v6 v7 v8 v9 v10) g #[v0,v1,v2,v3,v4,v5,v6,v7,v8,v9,v10] t:=by
 have:=(((((((((((h.set 0 v0).set 1 v1).set 2 v2).set 3 v3).set 4 v4).set 5 v5).set 6 v6).set 7 v7).set 8 v8).set 9 v9).set 10 v10)
 simpa using this
theorem BS{v7 v8 v9 v10:Value}(h:Below w.heap.size w W)(z:w.heap.size≤g):Below w.heap.size w (DY W g v0 v1 v2 v3 v4 v5 v6 v7 v8 v9 v10):=(((((((((((h.setCell (p:=⟨g,0,none⟩) z v0).setCell (p:=⟨g,1,none⟩) z v1).setCell (p:=⟨g,2,none⟩) z v2).setCell (p:=⟨g,3,none⟩) z v3).setCell (p:=⟨g,4,none⟩) z v4).setCell (p:=⟨g,5,none⟩) z v5).setCell (p:=⟨g,6,none⟩) z v6).setCell (p:=⟨g,7,none⟩) z v7).setCell (p:=⟨g,8,none⟩) z v8).setCell (p:=⟨g,9,none⟩) z v9).setCell (p:=⟨g,10,none⟩) z v10)
theorem xI{D:dO}{nm:BA}{st fl:Nat}{S:Nat×List XM}(h:u=4294967295∨8000<(b9 D nm).2.length):stepG XM.uid (fun m=>m.body.length) (mr D nm (u,st,fl)) S=none:=by
 unfold stepG;exact OS h
theorem G0{D:dO}{nm:BA}{u st fl:Nat}{n:Nat}{fs:List FM}{fa:OA}{fc:Nat}(z:¬u=4294967295)(A:¬8000<(b9 D nm).2.length):stepG XM.uid (fun m=>m.body.length) (mr D nm (u,st,fl)) (n,fs.map FM.x)=match jj iD ⟨mr D nm (u,st,fl),fa,fc,none,0⟩ fs with
  |none=>none
  |some fs'=>if 100<fs'.length then none else some (if n≤u then u+1 else n,fs'.map FM.x):=by
 unfold stepG;refine Eq.trans (OR (fun h=>h.elim z A)) ?_;have e:=AC (m:=⟨mr D nm (u,st,fl),fa,fc,none,0⟩) (fs:=fs);simp only at e⊢;rw[←e];cases jj iD ⟨mr D nm (u,st,fl),fa,fc,none,0⟩ fs with
 |none=>rfl
 |some fs'=>
  simp only[Option.map_some,OW];rfl
theorem Nb{m:FM}{fs z:List FM}(h:LtG iD fs)(e:jj iD m fs=some z):LtG iD z:=by
 obtain⟨ms,A,E,_⟩:=pM iD (m:=m) h (yt iD h e);rw[e] at A;obtain rfl:z=ms:=PJ A;exact E
theorem AV(D:dO)(dead:LN)(ns:List BA):ie D dead (fj 0 ns)=ie D dead ns:=by
 unfold ie fj;rw[List.filterMap_filter];congr 1;funext nm;unfold iq;cases eR nm.data.toList<;>simp
theorem Dz{D:dO}{dead:LN}{ns:List BA}{k:Nat×Nat×Nat}(h:j<ns.length)(z:eR ns[j].data.toList=some k)(A:k.1∈dead):ie D dead (ns.drop j)=ie D dead (ns.drop (j+1)):=by
 rw[fP ns j h];unfold ie;rw[List.filterMap_cons];simp only[z,A,if_true]
theorem DA{D:dO}{dead:LN}{ns:List BA}{k:Nat×Nat×Nat}(h:j<ns.length)(z:eR ns[j].data.toList=some k)(A:k.1∉dead):ie D dead (ns.drop j)=mr D ns[j] k::ie D dead (ns.drop (j+1)):=by
 rw[fP ns j h];unfold ie;rw[List.filterMap_cons];simp only[z,A,if_false]
theorem AE{nm:BA}(h:iq 0 nm=true):∃k,eR nm.data.toList=some k:=by
 unfold iq at h;cases hc:eR nm.data.toList with
 |none=>rw[hc] at h;cases h
 |some k=>exact⟨k,rfl⟩
theorem tf{t:List UInt8}{k:Nat×Nat×Nat}(h:eR t=some k):k.1≤4294967295:=by
 unfold eR at h;split at h
 ·next hx=>
  have z:=hx.choose_spec;rw[OY] at h;rw[←h];rcases z with⟨_,is,E,_⟩|⟨A,_⟩
  ·have:=E.u2;omega
  ·cases A
 ·cases h
theorem sA(v:Value)(D:dO)(a:OA)(c:Nat)(K:LN)(w:World)(hv:eM D)(hd:kJ w v D)(ht:fV w a c K):
  Calls prog 45 #[v,.slice a K.length c] w (Cs (fO D K) w):=by
 have HD:=a8 hd;have HV:=a8 hv;obtain⟨a1,c1,a2,c2,a3,c3,a4,c4,bZ,r1,r2,r3,r4⟩:=hd;have dg:=a8 bZ;subst bZ;obtain⟨L1,L2,L3,L4,hA,hz⟩:=NL w (dkA a1 c1 a2 c2 a3 c3 a4 c4 D) (zst 0 0) (zst 3 0) (zst 0 3) 34 48 48 48;have HU:=a8 (nX (ht.below hA));have H1:=a8 L1;have H2:=a8 L2;have H3:=a8 L3;have H4:=a8 L4;have HA:=a8 hA;clear L1 L2 L3 L4 hA ht r1 r2 r3 r4 hv;have di:∀(a:OA) (n c:Nat) (z:Int) (w:World),(Instr.field 58 (.agg #[.slice a n c,.int .i64 z]) 0).run prog w= .ok (.slice a n c) w:=fun a n c z w=>(by kernel_rfl);go_enter func45,ntmps45;go_upto_region 3 with fail;generalize (((w.alloc (.cells (dkA a1 c1 a2 c2 a3 c3 a4 c4 D) 34)).alloc (.cells (zst 0 0) 48)).alloc (.cells (zst 3 0) 48)).alloc (.cells (zst 0 3) 48)=w0 at HU H1 H2 H3 H4 HA hz⊢;go_wp2_with fail;refine HU.mono ?_;rintro e G ⟨ra,rc,vs,rfl,ho,au⟩;have bK:=a8 (show lp G (w.heap.size+4) (.slice ra (dP K).1.length rc) (dP K).1 from⟨vs,by rw[←hz];exact ho⟩);have ae:=bTr HA au;have G1:=a8 (H1.below au (by omega));have G2:=a8 (H2.below au (by omega));have G3:=a8 (H3.below au (by omega));have G4:=a8 (H4.below au (by omega));have dm:w.heap.size+4≤G.heap.size:=(by have:=au.size;omega);have bd:=a8 (j2 K);have HL:=a8 (fun i hi=>yU (d:=K) i hi);have hn:(dP K).1.length≤40000:=(by have:=j2 K;omega);have aA:=a8 (show fO D K=match mm (dP K).1 with
  |none=>gL 3
  |some s=>match goG XM.uid (fun m=>m.body.length) (ie D s.dead (D.names.map (·.1))) (s.next,[]) with
   |none=>gL 3
   |some (n,ms)=>⟨0,3,s.val,n,0,0,0,ms,s.dead⟩ from rfl)
 generalize cQ:(dP K).1=O at bK bd HL hn aA⊢;clear cQ ho au HU H1 H2 H3 H4 HA hz;by_cases h0:O=[]
 ·have HM:=a8 (show fO D K=gL 3 by rw[aA.out,h0];rfl);have bz:O.length=0:=(by rw[h0];rfl);rw[bz];clear h0 bz;obtain⟨b0,b1,b2,b3,b4,b5,b6,b7,b8⟩:=G3.c9;obtain⟨r0,r1,r2,r3,r4,r5,r6,r7,r8⟩:=G2.c9;have fr:=fun j=>G2.fz j;go_wp2;refine OJ (eQ (w.heap.size+1) _ (.int .i64 3) (.int .i64 0) (.int .u32 0) (.int .u32 0) (.int .u32 0) (.int .i64 0) (.int .i64 0) (sN) (sN) rfl rfl (mH G2)) rfl ?_;exact⟨_,rfl,by rw[HM.out];exact it _ _ 3,eH ae (by omega)⟩
 ·have bz:((O.length:Int)==0)=false:=(by simp;exact h0);have bo:=a8 h0;clear h0;go_wp2;go_loopw [8,9,25] (fun _ _ i wr=>∃(j:Nat) (s:UX) (dv:Value),j≤O.length∧i=iI j∧Hid (qs (decide (j=0)) (O.drop j) s=qs true O ⟨0,0,[]⟩)∧Hid (j=0∨1≤s.next∧s.next≤4294967295)∧Hid (s.dead.length≤kB (O.take j)+j)∧Hid (StU wr (w.heap.size+3) s dv)∧Hid (kK wr G.heap.size dv s.dead)∧Hid (dX (w.heap.size+3) G.heap.size G wr)∧G.heap.size≤wr.heap.size) (fun _ _ i _=>O.length-(intOf i).toNat)
  case atStart=>exact⟨0,⟨0,0,[]⟩,sN,O4 _,rfl,a8 rfl,a8 (Or.inl rfl),a8 (O4 _),G4,a8 (dM.nil _ _ _ _),a8 (dX.of_below (OX _ _) (OV _)),OV _⟩
  case round=>
   obtain⟨j,s,dv,hj,rfl,ac,aQ,aL,N,HO,I,az⟩:=hrel;have an:=a8 (show Below w.heap.size w wr from⟨I.os.trans ae.os,I.tape.trans ae.tape,I.output.trans ae.output,by have:=ae.size;omega,fun k hk=>(I.block k (by omega) (by omega)).trans (ae.block k hk)⟩);have K1:=a8 (G1.keepB (I.block (w.heap.size) (by omega) (by omega)));have Q:=a8 (G2.keepB (I.block (w.heap.size+1) (by omega) (by omega)));have K3:=a8 (G3.keepB (I.block (w.heap.size+2) (by omega) (by omega)));by_cases ad:j<O.length
   ·have cp:(j:Int)<(O.length:Int):=(by omega);obtain⟨b0,o0,e0,bV⟩:=(bK.keep (fun g h1 h2=>I.block g h2 (by omega))).rows (by omega);subst e0;obtain⟨ai,ci,k0,bF⟩:=bV j ad;have cL:=HL.out j ad;have WD:=a8 (nQ ai ci O[j] wr (by omega) bF);have aq:=a8 (fun first s'=>He (first:=first) (s:=s) (s':=s') ad);have aP:=a8 (fun first=>Mk (first:=first) (s:=s) ad);have bq:=a8 (G7 O j ad);have cA:=a8 (Fa O (j+1) (by omega));generalize O[j]=r at k0 WD aq aP cL bq;clear bV bF;obtain⟨fb,aY⟩:∃fb,decide (j=0)=fb:=⟨_,rfl⟩
    have dk:((j:Int)==0)=fb:=(by rw[←aY];by_cases h:j=0<;>simp[h]);rw[aY] at ac;have aN:=a8 aY;clear aY;go_wp2_with fail;refine WD.mono ?_;rintro e E ⟨v2,ws,rfl,ay,ba,U⟩;have bQ:=a8 (show ws.map (·.data.toList)=gK r from ba);have cD:=a8 (show∀y∈ws,y.size≤40000 from fun y hy=>by
     have h1:=iW (b:=32) (t:=(fw r).data.toList) (w:=y.data.toList) (by rw[←ba];exact List.mem_map_of_mem hy);have h2:(fw r).data.toList.length=r.length:=i7 r;have h3:y.data.toList.length=y.size:=rfl;omega)
    have bP:=a8 (show ws.length≤r.length+1 from by
     have h1:=OL List.length ba;rw[OW] at h1;have h2:=lX 32 (fw r).data.toList;have h3:(fw r).data.toList.length=r.length:=i7 r;omega)
    have cc:G.heap.size≤E.heap.size:=O0 az U.size;have br:=a8 (I.trans (dX.of_below U az));have aa:=a8 (N.below U N.lt);have ag:=a8 (show kK E G.heap.size dv s.dead from dM.below HO U (OV _));have CU:=a8 (vK (w.heap.size+3) G.heap.size wr.heap.size fb v2 ws s dv E aa ag (by omega) cc az (fun k hk=>(dM.lt HO k hk).2) ay cD (fun hf=>by
     rcases aQ.out with h|h
     ·rw[h] at aN;have:=aN.out;rw[hf] at this;simp at this
     ·exact h) (by have h1:=aL.out;have h2:=bP.out;have h3:=cA.out;have h4:=bq.out;have h5:=bd.out;omega))
    clear WD ba U ay k0 N HO I;go_wp2_with fail;refine CU.mono ?_;rintro e w3 ⟨bB,aZ⟩;have ar:=a8 (br.trans bB);have cU:G.heap.size≤w3.heap.size:=O0 cc bB.size;have P2:=a8 (G2.keepB (ar.block (w.heap.size+1) (by omega) (by omega)));have P3:=a8 (G3.keepB (ar.block (w.heap.size+2) (by omega) (by omega)));have cu:=a8 (show Below w.heap.size w w3 from⟨ar.os.trans ae.os,ar.tape.trans ae.tape,ar.output.trans ae.output,by have:=ae.size;omega,fun k hk=>(ar.block k (by omega) (by omega)).trans (ae.block k hk)⟩);rw[bQ.out] at aZ;clear bB CU br aa ag K1 Q K3;rcases aZ with⟨s',cF,bc,rfl,bU,bT⟩|⟨bX,rfl⟩
    ·have bh:=a8 ((aq.out fb s' bc).symm.trans ac);have bi:=a8 (vo bc (fun hf=>by
      rcases aQ.out with h|h
      ·rw[h] at aN;have:=aN.out;rw[hf] at this;simp at this
      ·exact h))
     have cl:=a8 (show(gK r).length≤r.length+1 by rw[←bQ.out,OW];exact bP.out);have cy:=a8 bU;have cx:=a8 bT;clear bc bU bT aq aP ac;go_wp2;go_roundw
     case rel=>exact⟨j+1,s',cF,by omega,by go_num,a8 (by rw[←bh.out];rfl),a8 (Or.inr ⟨bi.2.1,bi.2.2⟩),a8 (by have h1:=bi.1;have h2:=cl.out;have h3:=aL.out;have h4:=bq.out;omega),cy,cx,ar,cU⟩
     case measure=>simp[intOf];omega
    ·have HM:=a8 (show fO D K=gL 3 by
      rw[aA.out];unfold mm;rw[OR bo.out,←ac.out,aP.out fb bX])
     clear aq aP bX ac;obtain⟨b0,b1,b2,b3,b4,b5,b6,b7,b8⟩:=P3.c9;obtain⟨r0,r1,r2,r3,r4,r5,r6,r7,r8⟩:=P2.c9;have fr:=fun j=>P2.fz j;go_wp2;refine OJ (eQ (w.heap.size+1) _ (.int .i64 3) (.int .i64 0) (.int .u32 0) (.int .u32 0) (.int .u32 0) (.int .i64 0) (.int .i64 0) (sN) (sN) rfl rfl (mH P2)) rfl ?_;exact⟨_,rfl,by rw[HM.out];exact it _ _ 3,eH cu (by omega)⟩
   ·obtain rfl:j=O.length:=(by omega);have bO:=a8 (show mm O=some s by
     unfold mm;rw[OR bo.out,←ac.out,PO];cases hz:decide (O.length=0)<;>rfl)
    have bl:=a8 (aA.trans (by rw[bO.out]):fO D K=match goG XM.uid (fun m=>m.body.length) (ie D s.dead (D.names.map (·.1))) (s.next,[]) with
     |none=>gL 3
     |some (n,ms)=>⟨0,3,s.val,n,0,0,0,ms,s.dead⟩)
    have cP:1≤s.next∧s.next≤4294967295:=by
     rcases aQ.out with h|h
     ·exact OH (Pp.1 h) bo.out
     ·exact h
    have CC:=a8 (xo _ D 0 0 rfl wr HV (HD.below an));have cj:=a8 (show s.dead.length≤1048576 from by have h1:=aL.out;have h2:=bd.out;have h3:=Fa O O.length (OV _);omega);obtain⟨d0,d1,d2,d3,d4⟩:=K1.c5;clear aQ ac aL aA bO hj ad G4;go_wp2_with fail;refine CC.mono ?_;rintro e E ⟨u2,rfl,ay,U⟩;have aO:=a8 (show ie D s.dead (fj 0 (D.names.map (·.1)))=ie D s.dead (D.names.map (·.1)) from AV D s.dead _);have bG:=a8 (show∀nm∈fj 0 (D.names.map (·.1)),∃k,eR nm.data.toList=some k from fun nm hn=>AE (List.mem_filter.1 hn).2);have bN:=a8 (show∀nm∈fj 0 (D.names.map (·.1)),nm.size≤80 from fun nm hn=>by
     have h1:=(List.mem_filter.1 hn).1;obtain⟨e0,cH,rfl⟩:=Pg.1 h1;obtain⟨i,hi,rfl⟩:=PT.1 cH;exact lf HV.2.2.2.2.1 i hi)
    have cO:(fj 0 (D.names.map (·.1))).length≤300:=by
     have h1:=tg 0 (D.names.map (·.1));have h2:=(fX HV.2.2.2.2.1).2.2.1;rw[OW] at h1;omega
    have br:=a8 (I.trans (dX.of_below U az));have aa:=a8 (N.below U N.lt);have ag:=a8 (show kK E G.heap.size dv s.dead from dM.below HO U (OV _));have ap:=bTr an U;have Q1:=a8 (K1.below U (by omega));have Q2:=a8 (Q.below U (by omega));have Q3:=a8 (K3.below U (by omega));have cT:G.heap.size≤E.heap.size:=O0 az U.size;generalize fj 0 (D.names.map (·.1))=ns at ay aO bG bN cO;have bL:=a8 ay;rcases ay.at with⟨bA,cN⟩|⟨gn,cm,bA,cJ,co,db,cg⟩
    ·subst bA cN;have bn:=a8 (show fO D K=⟨0,3,s.val,s.next,0,0,0,[],s.dead⟩ by rw[bl.out,←aO.out];rfl);obtain⟨V,dn,Z,bu⟩:=eG ag.out;subst bu;obtain⟨s0,s1,s2,s3,s4,s5,s6,s7,s8⟩:=aa.c9;obtain⟨r0,r1,r2,r3,r4,r5,r6,r7,r8⟩:=Q2.c9;have fr:=fun j=>Q2.fz j;clear CC d0 d1 d2 d3 d4 U N HO I an K1 Q K3;go_wp2;refine wp_loop_rounds 1 ?_;rw[rounds_succ];go_wp2;refine OJ (eQ (w.heap.size+1) _ (.int .i64 0) (.int .i64 3) (uI s.val) (uI s.next) (.int .u32 0) (.int .i64 0) (.int .i64 0) (sN) (.slice V dn Z) rfl rfl (mH Q2)) rfl ?_;exact⟨_,rfl,by rw[bn.out];exact⟨none,0,0,V,dn,Z,[],rfl,rfl,dM.nil _ _ _ _,(fun m hm=>by cases hm),(dM.keep ag.out (fun g hg=>jk (by have:=(dM.lt ag.out g hg).1;omega))).mono (by omega)⟩,eH ap (by omega)⟩
    ·subst bA;have cB:=a8 (show StX E (w.heap.size+3) 3 s.val s.next 0 0 0 (sN) dv from aa.out);have bJ:=a8 (show∀W:World,fB W wr.heap.size (sS gn ns.length cm) ns→∀j (h:j<ns.length),W.cell? ⟨gn,j,none⟩=some (.string ns[j]) from fun W hW j h=>by
      rcases hW.at with⟨h1,_⟩|⟨g',dd,h1,_,_,_,hc⟩
      ·cases h1
      ·simp only[O3,OY,PG] at h1;obtain⟨⟨rfl,_⟩,_,_⟩:=h1;have:=hc j ns[j] (OZ h);rw[Ps] at this;exact this)
     have de:w.heap.size+4≤gn:=(by omega);obtain⟨V,dn,Z,bu⟩:=eG ag.out;subst bu;have cG:dn=s.dead.length:=by
      obtain⟨a',c',e'⟩:=dM.slice ag.out;rw[OW] at e';simp only[O3] at e';exact e'.2.1
     subst cG;clear CC d0 d1 d2 d3 d4 U N HO I an K1 Q K3 cg aa;generalize wr.heap.size=zr at bL bJ co cT az;go_wp2;go_loopw [11,12,13,41] (fun _ _ _ i wr=>∃(j n:Nat) (fs:List FM) (mv:Value),j≤ns.length∧i=iI j∧n≤4294967295∧Hid (goG XM.uid (fun m=>m.body.length) (ie D s.dead (ns.drop j)) (n,fs.map FM.x)=goG XM.uid (fun m=>m.body.length) (ie D s.dead ns) (s.next,[]))∧Hid (StX wr (w.heap.size+3) 3 s.val n 0 0 0 mv (.slice V s.dead.length Z))∧Hid (ll wr E.heap.size w.heap.size mv fs)∧Hid (LtG iD fs)∧fs.length≤100∧Hid (dX (w.heap.size+3) E.heap.size E wr)∧E.heap.size≤wr.heap.size) (fun _ _ _ i _=>ns.length-(intOf i).toNat)
     case atStart=>exact⟨0,s.next,[],sN,O4 _,rfl,cP.2,a8 rfl,cB,a8 (ll.nil _ _ _),a8 List.Pairwise.nil,by simp,a8 (dX.of_below (OX _ _) (OV _)),OV _⟩
     case round=>
      obtain⟨j,n,fs,mv,hj,rfl,bW,ac,N,HF,bk,cI,I,cb⟩:=hrel;have an:=a8 (show Below w.heap.size w wr from⟨I.os.trans ap.os,I.tape.trans ap.tape,I.output.trans ap.output,by have:=ap.size;omega,fun k hk=>(I.block k (by have:=ap.size;omega) (by omega)).trans (ap.block k hk)⟩);have dp:w.heap.size+4≤E.heap.size:=(by omega);have K1:=a8 (Q1.keepB (I.block (w.heap.size) (by omega) (by omega)));have Q:=a8 (Q2.keepB (I.block (w.heap.size+1) (by omega) (by omega)));have K3:=a8 (Q3.keepB (I.block (w.heap.size+2) (by omega) (by omega)));have aR:=a8 (show kK wr G.heap.size (.slice V s.dead.length Z) s.dead from dM.keep ag (fun g hg=>I.block g (dM.lt ag g hg).2 (by have:=(dM.lt ag g hg).1;omega)));obtain⟨ma,mn,mc,cM⟩:=eG HF.own;subst cM;by_cases ad:j<ns.length
      ·have cp:(j:Int)<(ns.length:Int):=(by omega);have k0:=bJ.out wr (oB bL (I.block gn cJ (by omega))) j ad;obtain⟨⟨u,st,fl⟩,hk⟩:=bG.out ns[j] (O6 ad);have cR:=bN.out ns[j] (O6 ad);have bf:=a8 (fun hd=>Dz (D:=D) (dead:=s.dead) ad hk hd);have bj:=a8 (fun hd=>DA (D:=D) (dead:=s.dead) ad hk hd);have cK:=tf hk;simp only at cK;have HK:=a8 hk;generalize ns[j]=nm at k0 cR bf bj HK;clear hk;go_wp2_with fail;refine(kV nm wr (by omega)).mono ?_;rintro e w3 ⟨ok,ku,ks,kf,rfl,bE,aX⟩;have aH:=(ly bE).symm.trans HK.out;obtain⟨rfl,aH⟩:ok=true∧(ku,ks,kf)=(u,st,fl):=by
        cases ok with
        |true=>exact⟨rfl,by simpa using aH⟩
        |false=>simp at aH
       simp only[Prod.mk.injEq] at aH;obtain⟨rfl,rfl,rfl⟩:=aH;have aG:=nAl w3 (.cells #[.bool true,uI u,iI st,uI fl] 104);have aj:=aX.trans (aG.mono aX.size);have HCB:=a8 (dQ w3 #[.bool true,uI u,iI st,uI fl] 104);have ax:=a8 (N.below aj N.lt);have aM:=a8 (HF.below aj (by omega));have aS:=a8 (I.trans (dX.of_below aj cb));have be:=a8 (show kK _ G.heap.size (.slice V s.dead.length Z) s.dead from dM.below aR aj (OV _));have ab:=a8 (K1.below aj (by omega));have aT:=a8 (Q.below aj (by omega));have aU:=a8 (K3.below aj (by omega));have ak:=bTr an aj;have bb:=O0 cb aj.size;have cE:=a8 (show w.heap.size+4≤w3.heap.size from by have:=aX.size;omega);clear bE aX aG aj k0 N HF I aR K1 Q K3 an;go_upto_region 16 with fail;generalize w3.alloc (.cells #[.bool true,uI u,iI st,uI fl] 104)=W at HCB ax aM aS be ab aT aU ak bb⊢;obtain⟨-,-,-,-,-,-,-,-,g8⟩:=ax.c9;obtain⟨-,q1⟩:=HCB.c2;have CI:=a8 (AQ G.heap.size V Z s.dead u W cj be);go_wp2_with fail;refine CI.mono ?_;rintro e w5 ⟨rfl,rfl⟩;by_cases av:u∈s.dead
       ·have aI:decide (u∈s.dead)=true:=ON av;have bh:=a8 (show goG XM.uid (fun m=>m.body.length) (ie D s.dead (ns.drop (j+1))) (n,fs.map FM.x)=goG XM.uid (fun m=>m.body.length) (ie D s.dead ns) (s.next,[]) by rw[←bf.out av];exact ac.out);clear av g8 q1 CI;rw[aI];clear aI;go_wp2;go_roundw
        case rel=>exact⟨j+1,n,fs,_,by omega,by go_num,bW,bh,ax,aM,bk,cI,aS,bb⟩
        case measure=>simp[intOf];omega
       ·have aI:decide (u∈s.dead)=false:=OM av;have ck:=a8 (bj.out av);rw[aI];clear av aI g8 CI bf bj q1;obtain⟨-,q1,q2,q3⟩:=HCB.c4;obtain⟨d0,d1,d2,d3,d4⟩:=ab.c5;have CF:=a8 (fun(X:World) (hX:Below w5.heap.size w5 X)=>jq w _ D nm X HV HD (ak.trans (hX.mono ak.size)));have dj:∀(b:Bool) (a:OA) (n c:Nat) (w:World),(Instr.field 54 (.agg #[.bool b,.slice a n c]) 1).run prog w= .ok (.slice a n c) w:=fun b a n c w=>(by kernel_rfl);have HKQ:=a8 (fun(Y:World) (hY:Below w5.heap.size w5 Y)=>((⟨(hY.cell (p:=⟨w3.heap.size,1,none⟩) HCB.lt).trans q1,(hY.cell (p:=⟨w3.heap.size,2,none⟩) HCB.lt).trans q2,(hY.cell (p:=⟨w3.heap.size,3,none⟩) HCB.lt).trans q3,(hY.cell (p:=⟨w.heap.size,0,none⟩) ab.lt).trans d0,(hY.cell (p:=⟨w.heap.size,1,none⟩) ab.lt).trans d1,(hY.cell (p:=⟨w.heap.size,2,none⟩) ab.lt).trans d2,(hY.cell (p:=⟨w.heap.size,3,none⟩) ab.lt).trans d3,(hY.cell (p:=⟨w.heap.size,4,none⟩) ab.lt).trans d4⟩):Y.cell? ⟨w3.heap.size,1,none⟩=some (uI u)∧Y.cell? ⟨w3.heap.size,2,none⟩=some (iI st)∧Y.cell? ⟨w3.heap.size,3,none⟩=some (uI fl)∧Y.cell? ⟨w.heap.size,0,none⟩=some (.slice a1 D.nodes.length c1)∧Y.cell? ⟨w.heap.size,1,none⟩=some (.slice a2 D.names.length c2)∧Y.cell? ⟨w.heap.size,2,none⟩=some (.slice a3 D.kept.length c3)∧Y.cell? ⟨w.heap.size,3,none⟩=some (.slice a4 D.pend.length c4)∧Y.cell? ⟨w.heap.size,4,none⟩=some (.int .i64 D.quota)));go_upto_region 17 with fail;go_cut [13] (fun p wx=>∃(bm:Nat) (fa:OA) (fc:Nat),p=pP bm∧w5.heap.size≤bm∧Hid (Blk wx bm #[uI u,iI st,uI fl,.slice fa (b9 D nm).2.length fc,sN,.int .i64 0,.int .u32 0,.int .i64 0,.int .i64 0,.bool true,.string nm] 108)∧Hid (TxL wx w.heap.size fa fc (b9 D nm).2)∧Hid (Below w5.heap.size w5 wx))
        case first=>
         go_region_held3 (fun w'=>w'.cell? ⟨w3.heap.size,1,none⟩=some (uI u)∧w'.cell? ⟨w3.heap.size,2,none⟩=some (iI st)∧w'.cell? ⟨w3.heap.size,3,none⟩=some (uI fl)∧w'.cell? ⟨w.heap.size,0,none⟩=some (.slice a1 D.nodes.length c1)∧w'.cell? ⟨w.heap.size,1,none⟩=some (.slice a2 D.names.length c2)∧w'.cell? ⟨w.heap.size,2,none⟩=some (.slice a3 D.kept.length c3)∧w'.cell? ⟨w.heap.size,3,none⟩=some (.slice a4 D.pend.length c4)∧w'.cell? ⟨w.heap.size,4,none⟩=some (.int .i64 D.quota)) (go_keep)
          (first
          |(go_at_call 18;refine(CF.out _ (by first|exact(OX _ _).drew|exact(nAl w5 _).drew)).mono ?_;rintro e w6 ⟨fa,fc,rfl,bw,hb6⟩;have bI:=a8 bw;first
           |(have hb7:=(OX w5.heap.size w5).drew.trans hb6;obtain⟨y1,y2,y3,y4,y5,y6,y7,y8⟩:=HKQ.out w6 hb7;have HB7:=a8 hb7;have nn1:¬w6.heap.size=w3.heap.size:=(by have:=hb7.size;have:=HCB.lt;omega);have nn2:¬w3.heap.size=w6.heap.size:=(fun h=>nn1 h.symm);have cZ:¬w6.heap.size=w.heap.size:=(by have:=hb7.size;have:=ab.lt;omega);have du:¬w.heap.size=w6.heap.size:=(fun h=>cZ h.symm);clear bw hb6 hb7)
           |(have hbA:=(nAl w5 (.cells #[.int .u32 0,.int .i64 0,.int .u32 0,sN,sN,.int .i64 0,.int .u32 0,.int .i64 0,.int .i64 0,.bool false,.string ⟨#[]⟩] 108)).drew;have hb7:=hbA.trans (hb6.mono hbA.size);obtain⟨y1,y2,y3,y4,y5,y6,y7,y8⟩:=HKQ.out w6 hb7;have hq:=Blk.below (show Blk (w5.alloc (.cells #[.int .u32 0,.int .i64 0,.int .u32 0,sN,sN,.int .i64 0,.int .u32 0,.int .i64 0,.int .i64 0,.bool false,.string ⟨#[]⟩] 108)).drew w5.heap.size #[.int .u32 0,.int .i64 0,.int .u32 0,sN,sN,.int .i64 0,.int .u32 0,.int .i64 0,.int .i64 0,.bool false,.string ⟨#[]⟩] 108 from dQ w5 _ _) hb6 (by show w5.heap.size<(w5.alloc _).heap.size;simp);have z0:w6.cell? ⟨w5.heap.size,0,none⟩=some (.int .u32 0):=hq.cell 0;have z1:w6.cell? ⟨w5.heap.size,1,none⟩=some (.int .i64 0):=hq.cell 1;have z2:w6.cell? ⟨w5.heap.size,2,none⟩=some (.int .u32 0):=hq.cell 2;have z3:w6.cell? ⟨w5.heap.size,3,none⟩=some (sN):=hq.cell 3;have z4:w6.cell? ⟨w5.heap.size,4,none⟩=some (sN):=hq.cell 4;have z5:w6.cell? ⟨w5.heap.size,5,none⟩=some (.int .i64 0):=hq.cell 5;have z6:w6.cell? ⟨w5.heap.size,6,none⟩=some (.int .u32 0):=hq.cell 6;have z7:w6.cell? ⟨w5.heap.size,7,none⟩=some (.int .i64 0):=hq.cell 7;have z8:w6.cell? ⟨w5.heap.size,8,none⟩=some (.int .i64 0):=hq.cell 8;have z9:w6.cell? ⟨w5.heap.size,9,none⟩=some (.bool false):=hq.cell 9;have z10:w6.cell? ⟨w5.heap.size,10,none⟩=some (.string ⟨#[]⟩):=hq.cell 10;have fq:=(fun j=>hq.fz j);have HQ:=a8 hq;have HB7:=a8 hb7;have cW:¬w5.heap.size=w3.heap.size:=(by have:=HCB.lt;omega);have dq:¬w3.heap.size=w5.heap.size:=(fun h=>cW h.symm);have cX:¬w5.heap.size=w.heap.size:=(by have:=ab.lt;omega);have dr:¬w.heap.size=w5.heap.size:=(fun h=>cX h.symm);clear bw hb6 hb7 hbA hq;trace "Y"))
          |fail)
         all_goals
          first
          |(have HZ:=a8 (N3 (v0:=uI u) (v1:=iI st) (v2:=uI fl) (v3:= .slice fa (b9 D nm).2.length fc) (v4:=sN) (v5:= .int .i64 0) (v6:= .int .u32 0) (v7:= .int .i64 0) (v8:= .int .i64 0) (v9:= .bool true) (v10:= .string nm) HQ)
            clear y1 y2 y3 y4 y5 y6 y7 y8 z0 z1 z2 z3 z4 z5 z6 z7 z8 z9 z10 fq;have aF:=a8 (show Below w5.heap.size w5 (DY w6 w5.heap.size (uI u) (iI st) (uI fl) (.slice fa (b9 D nm).2.length fc) (sN) (.int .i64 0) (.int .u32 0) (.int .i64 0) (.int .i64 0) (.bool true) (.string nm)) from BS HB7 (OV _));have aE:=a8 (bI.low (ak.trans (aF.mono ak.size)));go_wp2_with fail;go_meet
            case rel=>exact⟨w5.heap.size,fa,fc,rfl,OV _,HZ,aE,aF⟩)
          |(have aG:=nAl w6 (.cells #[uI u,iI st,uI fl,.slice fa (b9 D nm).2.length fc,sN,.int .i64 0,.int .u32 0,.int .i64 0,.int .i64 0,.bool true,.string nm] 108)
            have HZ:=a8 (dQ w6 #[uI u,iI st,uI fl,.slice fa (b9 D nm).2.length fc,sN,.int .i64 0,.int .u32 0,.int .i64 0,.int .i64 0,.bool true,.string nm] 108);have aF:=bTr HB7 aG;have aE:=a8 (bI.low (ak.trans (aF.mono ak.size)));clear y1 y2 y3 y4 y5 y6 y7 y8 aG;go_wp2_with fail;go_meet
            case rel=>exact⟨w6.heap.size,fa,fc,rfl,HB7.size,HZ,aE,aF⟩)
        case rest=>
         obtain⟨bm,fa,fc,rfl,dh,af,aE,am⟩:=hcut;have bM:=a8 (ax.below am ax.lt);have bH:=a8 (aM.below am (by omega));have bR:=a8 (aS.trans (dX.of_below am bb));have aK:=a8 (HCB.below am HCB.lt);have J:=a8 (aT.below am aT.lt);have M:=a8 (aU.below am aU.lt);have al:=a8 (ak.trans (am.mono ak.size));have bC:E.heap.size≤wc.heap.size:=O0 bb am.size;clear q1 q2 q3 d0 d1 d2 d3 d4 HKQ CF ax aM aS HCB ab aT aU be;obtain⟨-,-,-,m3⟩:=af.c4;obtain⟨-,q1⟩:=aK.c2;have aq:=a8 (show∀(r:Option (Nat×List XM)),stepG XM.uid (fun m=>m.body.length) (mr D nm (u,st,fl)) (n,fs.map FM.x)=r→goG XM.uid (fun m=>m.body.length) (ie D s.dead ns) (s.next,[])=match r with
           |none=>none
           |some st'=>goG XM.uid (fun m=>m.body.length) (ie D s.dead (ns.drop (j+1))) st' from fun r hr=>by
          rw[←ac.out,ck.out,goG,hr];cases r<;>rfl)
         have aJ:=a8 (show stepG XM.uid (fun m=>m.body.length) (mr D nm (u,st,fl)) (n,fs.map FM.x)=none→fO D K=gL 3 from fun h=>by
          rw[bl.out,←aO.out,aq.out _ h])
         by_cases ht:u=4294967295
         ·have HM:=a8 (aJ.out (xI (Or.inl ht)));have cS:((u:Int)==4294967295)=true:=(by simp;omega);clear ht;obtain⟨b0,b1,b2,b3,b4,b5,b6,b7,b8⟩:=M.c9;obtain⟨r0,r1,r2,r3,r4,r5,r6,r7,r8⟩:=J.c9;have fr:=fun j=>J.fz j;go_wp2;refine OJ (eQ (w.heap.size+1) _ (.int .i64 3) (.int .i64 0) (.int .u32 0) (.int .u32 0) (.int .u32 0) (.int .i64 0) (.int .i64 0) (sN) (sN) rfl rfl (mH J)) rfl ?_;exact⟨_,rfl,by rw[HM.out];exact it _ _ 3,eH al (by omega)⟩
         ·have cS:((u:Int)==4294967295)=false:=(by simp;omega);by_cases bt:8000<(b9 D nm).2.length
          ·have HM:=a8 (aJ.out (xI (Or.inr bt)));have cn:(8000:Int)<((b9 D nm).2.length:Int):=(by omega);clear ht;obtain⟨b0,b1,b2,b3,b4,b5,b6,b7,b8⟩:=M.c9;obtain⟨r0,r1,r2,r3,r4,r5,r6,r7,r8⟩:=J.c9;have fr:=fun j=>J.fz j;go_wp2;refine OJ (eQ (w.heap.size+1) _ (.int .i64 3) (.int .i64 0) (.int .u32 0) (.int .u32 0) (.int .u32 0) (.int .i64 0) (.int .i64 0) (sN) (sN) rfl rfl (mH J)) rfl ?_;exact⟨_,rfl,by rw[HM.out];exact it _ _ 3,eH al (by omega)⟩
          ·have cn:¬(8000:Int)<((b9 D nm).2.length:Int):=(by omega);have aC:=a8 (G0 (D:=D) (nm:=nm) (u:=u) (st:=st) (fl:=fl) (n:=n) (fs:=fs) (fa:=fa) (fc:=fc) ht bt);obtain⟨m0,m1,m2,-,m4,m5,m6,m7,m8,m9,cV⟩:=af.c11;have CI:=a8 (show Calls prog 76 #[pP (w.heap.size+3),.agg #[(uI u),(iI st),(uI fl),(.slice fa (b9 D nm).2.length fc),(sN),(.int .i64 0),(.int .u32 0),(.int .i64 0),(.int .i64 0),(.bool true),(.string nm)]] wc (Hk (w.heap.size+3) E.heap.size w.heap.size 3 s.val n 0 0 0 (.slice V s.dead.length Z) ⟨mr D nm (u,st,fl),fa,fc,none,0⟩ fs wc) from yF (w.heap.size+3) E.heap.size w.heap.size 3 s.val n 0 0 0 (.slice ma mn mc) (.slice V s.dead.length Z) fs ⟨mr D nm (u,st,fl),fa,fc,none,0⟩ wc bM bH (by omega) bC (by omega) ⟨aE,TxL.nil _ _⟩ bk (by omega));have dl:(u:Int)≤4294967294:=(by omega);have df:=a8 ht;clear bt ht;go_wp2_with fail;refine CI.mono ?_;rintro e A ⟨ah,aZ⟩;have bS:=a8 (bR.trans (ah.mono bC));have ca:E.heap.size≤A.heap.size:=O0 bC ah.size;have L:=a8 (J.keepB (ah.block (w.heap.size+1) (by have:=J.lt;omega) (by omega)));have R:=a8 (M.keepB (ah.block (w.heap.size+2) (by have:=M.lt;omega) (by omega)));have q7:A.cell? ⟨w3.heap.size,1,none⟩=some (uI u):=(aK.keepB (ah.block w3.heap.size aK.lt (by have:=cE.out;omega))).cell 1;have HB7:=a8 (show Below w.heap.size w A from⟨ah.os.trans al.os,ah.tape.trans al.tape,ah.output.trans al.output,by have:=al.size;have:=ah.size;omega,fun k hk=>(ah.block k (by have:=al.size;omega) (by omega)).trans (al.block k hk)⟩);clear ah CI m0 m1 m2 m3 m4 m5 m6 m7 m8 m9 cV q1 bM bH bR aK J M al;rcases aZ with⟨ao,dt,aw,rfl,aW,aV⟩|⟨aw,rfl⟩
           ·have bD:=a8 (Nb bk aw);have bp:=a8 aW;have bg:=a8 aV;rw[aw] at aC;simp only at aC;obtain⟨cd,cY,ce,cr⟩:=eG aV.own;subst cr;have cq:cY=ao.length:=by
             obtain⟨a',c',e'⟩:=dM.slice aV.own;rw[OW] at e';simp only[O3] at e';exact e'.2.1
            subst cq;obtain⟨-,-,-,-,-,-,-,g7⟩:=aW.c8;obtain⟨-,-,-,g3⟩:=aW.c4;have fg:=fun j=>bp.fz j;clear aw aW aV;by_cases aB:100<ao.length
            ·have ch:(100:Int)<(ao.length:Int):=(by omega);have HM:=a8 (aJ.out (by rw[aC.out,OS aB]));clear aB;obtain⟨b0,b1,b2,b3,b4,b5,b6,b7,b8⟩:=R.c9;obtain⟨r0,r1,r2,r3,r4,r5,r6,r7,r8⟩:=L.c9;have fr:=fun j=>L.fz j;go_wp2;refine OJ (eQ (w.heap.size+1) _ (.int .i64 3) (.int .i64 0) (.int .u32 0) (.int .u32 0) (.int .u32 0) (.int .i64 0) (.int .i64 0) (sN) (sN) rfl rfl (mH L)) rfl ?_;exact⟨_,rfl,by rw[HM.out];exact it _ _ 3,eH HB7 (by omega)⟩
            ·have ch:¬(100:Int)<(ao.length:Int):=(by omega);have aD:=a8 (aq.out _ (aC.trans (OR aB)));simp only at aD;by_cases bY:n≤u
             ·have ct:(n:Int)≤(u:Int):=(by omega);rw[OS bY] at aD;have cz:=a8 (show StX (A.setCell ⟨w.heap.size+3,3,none⟩ (.int .u32 ((u:Int)+1))) (w.heap.size+3) 3 s.val (u+1) 0 0 0 (.slice cd ao.length ce) (.slice V s.dead.length Z) from by
               have h:=bp.set 3 (.int .u32 ((u:Int)+1));show Blk _ _ (stX _ _ _ _ _ _ _ _) _;simpa[stX] using h)
              have cv:=a8 (bg.keep (w':=A.setCell ⟨w.heap.size+3,3,none⟩ (.int .u32 ((u:Int)+1))) (fun b hb=>OQ A ⟨w.heap.size+3,3,none⟩ b _ (by simp;omega)) (fun g hg=>OQ A ⟨w.heap.size+3,3,none⟩ g _ (by have:=(dM.lt bg.own g hg).1;simp;omega)));have cC:=a8 (bS.set (j:=3) (.int .u32 ((u:Int)+1)));clear aB;go_wp2;go_roundw
              case rel=>exact⟨j+1,u+1,ao,_,by omega,by go_num,by omega,a8 aD.symm,cz,cv,bD,by omega,cC,by simpa using ca⟩
              case measure=>simp[intOf];omega
             ·have ct:¬(n:Int)≤(u:Int):=(by omega);rw[OR bY] at aD;clear aB;go_wp2;go_roundw
              case rel=>exact⟨j+1,n,ao,_,by omega,by go_num,bW,a8 aD.symm,bp,bg,bD,by omega,bS,ca⟩
              case measure=>simp[intOf];omega
           ·have HM:=a8 (aJ.out (by rw[aC.out,aw]));clear aw;obtain⟨b0,b1,b2,b3,b4,b5,b6,b7,b8⟩:=R.c9;obtain⟨r0,r1,r2,r3,r4,r5,r6,r7,r8⟩:=L.c9;have fr:=fun j=>L.fz j;go_wp2;refine OJ (eQ (w.heap.size+1) _ (.int .i64 3) (.int .i64 0) (.int .u32 0) (.int .u32 0) (.int .u32 0) (.int .i64 0) (.int .i64 0) (sN) (sN) rfl rfl (mH L)) rfl ?_;exact⟨_,rfl,by rw[HM.out];exact it _ _ 3,eH HB7 (by omega)⟩
      ·obtain rfl:j=ns.length:=(by omega);have cw:=a8 (show goG XM.uid (fun m=>m.body.length) (ie D s.dead ns) (s.next,[])=some (n,fs.map FM.x) by
        rw[←ac.out,PO];rfl)
       have bn:=a8 (show fO D K=⟨0,3,s.val,n,0,0,0,fs.map FM.x,s.dead⟩ by rw[bl.out,←aO.out,cw.out]);obtain⟨s0,s1,s2,s3,s4,s5,s6,s7,s8⟩:=N.c9;obtain⟨r0,r1,r2,r3,r4,r5,r6,r7,r8⟩:=Q.c9;have fr:=fun j=>Q.fz j;clear ac;go_wp2;refine OJ (eQ (w.heap.size+1) _ (.int .i64 0) (.int .i64 3) (uI s.val) (uI n) (.int .u32 0) (.int .i64 0) (.int .i64 0) (.slice ma mn mc) (.slice V s.dead.length Z) rfl rfl (mH Q)) rfl ?_;have bx:=HF.keep (w':=xB wr (w.heap.size+1) (.int .i64 0) (.int .i64 3) (uI s.val) (uI n) (.int .u32 0) (.int .i64 0) (.int .i64 0) (.slice ma mn mc) (.slice V s.dead.length Z)) (fun b hb=>jk (by omega)) (fun g hg=>jk (by have:=(dM.lt HF.own g hg).1;omega));exact⟨_,rfl,by rw[bn.out];exact⟨ma,mn,mc,V,_,Z,fs,rfl,rfl,bx.own.mono (by omega),(fun m hm=>⟨(bx.tx m hm).1.r,(bx.tx m hm).2.r⟩),(dM.keep aR (fun g hg=>jk (by have:=(dM.lt aR g hg).1;omega))).mono (by omega)⟩,eH an (by omega)⟩
def il0(m:IM):List Value:=[.int .u32 (m.uid:Int),.int .i64 (m.stamp:Int),.int .u32 (m.flags:Int),sN,.int .i64 (m.size:Int),.bool (decide (m.bare=1))]
abbrev nC(w:World)(base:Nat)(v:Value)(ms:List IM):Prop:=dM w base 243 6 v (ms.map il0)
theorem qR{ms:List IM}(h:nC w A (sS g n cap) ms)(i:Nat)(hi:i<ms.length)(j:Nat)(z:j<6):w.cell? ⟨g,i*6+j,none⟩=(il0 ms[i])[j]? :=by
 have E:((ms.map il0)[i]'(by simpa using hi)).length=6:=(by rw[Po];rfl);rw[h.cell i j (by simpa using hi) (by rw[E];exact z),OZ (by show j<6;exact z)];congr 1;simp
def cmN(x y:Nat):Int:=if x<y then-1 else if y<x then 1 else 0
theorem MZ(x y:Nat):cmN x y<0↔x<y:=by
 unfold cmN;split
 ·simp[*]
 ·split<;>simp<;>omega
theorem Hy(x y:Nat):cmN x y=0↔x=y:=by
 unfold cmN;split
 ·simp;omega
 ·split
  ·simp;omega
  ·simp;omega
theorem Bw(x:Nat)(v1:Int)(v2:Int)(z:OA)(E A:Nat)(v4:Int)(v5:Bool)(u:Nat)(w:World):Calls prog 180 #[.agg #[.int .u32 (x:Int),.int .i64 v1,.int .u32 v2,.slice z E A,.int .i64 v4,.bool v5],.int .u32 (u:Int)] w fun e w'=>e= .returned (.int .i64 (cmN x u))∧Below w.heap.size w w':=by
 have G:=a8 (nAl w (.cells #[uI x,.int .i64 v1,.int .u32 v2,.slice z E A,.int .i64 v4,.bool v5] 243));have I:=a8 (fun W=>zV x u W);unfold cmN;generalize J:(if x<u then-1 else if u<x then 1 else 0:Int)=q at I;clear J;go_enter func180,ntmps180;go_wp2_with fail;generalize w.alloc (.cells #[uI x,.int .i64 v1,.int .u32 v2,.slice z E A,.int .i64 v4,.bool v5] 243)=K at G⊢;refine(I.out K).mono ?_;rintro e L ⟨rfl,rfl⟩;go_wp2;go_ret;exact⟨rfl,G⟩
def Hi(ms:List IM)(u:Nat)(e:Ending):Prop:=∃(i:Nat) (f:Bool),e= .returned (.tuple #[.int .i64 (i:Int),.bool f])∧(f=true→jB ms u=some i)∧(f=false→jB ms u=none)
theorem yX{ms:List IM}(h:(ms.map (·.uid)).Pairwise (·<·))(hi:i<ms.length)(A:j<ms.length)(z:i<j):ms[i].uid<ms[j].uid:=by
 have:=Pn.1 h i j (by simpa using hi) (by simpa using A) z;simpa using this
theorem KP(ap:Nat)(a:OA)(cap:Nat)(ms:List IM)(u:Nat)(w:World)(hn:ms.length≤1048576)(hr:nC w ap (.slice a ms.length cap) ms)(ao:(ms.map (·.uid)).Pairwise (·<·)):
  Calls prog 179 #[.slice a ms.length cap,.int .u32 (u:Int),.func (.func 180) #[] #[]] w fun e w'=>Hi ms u e∧Below w.heap.size w w':=by
 have ac:=a8 ao;have M:=a8 hr;clear ao hr;go_enter func179,ntmps179;go_wp2;go_loopw [9,10,11] (fun i j _ wr=>∃(p q:Nat),p≤q∧q≤ms.length∧i=iI p∧j=iI q∧Hid (∀k (h:k<ms.length),k<p→ms[k].uid<u)∧Hid (∀k (h:k<ms.length),q≤k→¬ms[k].uid<u)∧Hid (Below w.heap.size w wr)) (fun i j _ _=>(intOf j).toNat-(intOf i).toNat)
 case atStart=>exact⟨0,ms.length,O4 _,OV _,rfl,rfl,a8 (fun k _ h=>by omega),a8 (fun k h h'=>by omega),a8 (OX _ _)⟩
 case round=>
  obtain⟨p,q,aA,hq,rfl,rfl,ab,aj,J⟩:=hrel;by_cases aw:p<q
  ·have an:(p:Int)<(q:Int):=(by omega);obtain⟨m,hm⟩:∃m,m=(p+q)/2:=⟨_,rfl⟩
   have ax:p≤m∧m<q:=(by omega);have ay:((p:Int)+(q:Int))/2=(m:Int):=(by omega);clear hm;have ae:m<ms.length:=(by omega);obtain⟨g,ad,_,_⟩:=M.at0 (by rw[OW];omega);subst ad;have z:=fun k E=>qR (M.below J (OV _)) m ae k E;have az:(m:Int)<(ms.length:Int):=(by omega);have ak:=a8 (show ms[m].uid<u→∀k (h:k<ms.length),k<m+1→ms[k].uid<u from fun h k E ar=>by
    by_cases e:k=m
    ·subst e;exact h
    ·have:=yX ac E ae (by omega);omega)
   have ai:=a8 (show¬ms[m].uid<u→∀k (h:k<ms.length),m≤k→¬ms[k].uid<u from fun h k E ar=>by
    by_cases e:k=m
    ·subst e;exact h
    ·have:=yX ac ae E (by omega);omega)
   generalize ms[m]=X at z ak ai;have Q:wr.cell? ⟨g,m*6,none⟩=some (uI X.uid):=z 0 (by omega);have R:wr.cell? ⟨g,m*6+1,none⟩=some (iI X.stamp):=z 1 (by omega);have U:wr.cell? ⟨g,m*6+2,none⟩=some (uI X.flags):=z 2 (by omega);have V:wr.cell? ⟨g,m*6+3,none⟩=some (sN):=z 3 (by omega);have Y:wr.cell? ⟨g,m*6+4,none⟩=some (iI X.size):=z 4 (by omega);have K:wr.cell? ⟨g,m*6+5,none⟩=some (.bool (decide (X.bare=1))):=z 5 (by omega);have A:=a8 (Bw X.uid X.stamp X.flags none 0 0 X.size (decide (X.bare=1)) u wr);have Z:=a8 (MZ X.uid u);generalize cmN X.uid u=N at A Z;generalize decide (X.bare=1)=bz at K A;clear z;go_wp2_with fail;refine A.mono ?_;rintro e w2 ⟨rfl,G⟩;have I:=bTr J G;clear G Q R U V Y K A;by_cases am:N<0
   ·have HN:=a8 (ak.out (Z.1 am));go_wp2;go_roundw
    case rel=>exact⟨m+1,q,by omega,hq,by go_num,rfl,HN,aj,I⟩
    case measure=>simp[intOf];omega
   ·have HN:=a8 (ai.out (fun h=>am (Z.2 h)));go_wp2;go_roundw
    case rel=>exact⟨p,m,by omega,by omega,rfl,by go_num,ab,HN,I⟩
    case measure=>simp[intOf];omega
  ·obtain rfl:p=q:=(by omega);have ag:=a8 (show(∀h:p<ms.length,ms[p].uid≠u)→jB ms u=none from fun au=>uC (fun k E e=>by
    rcases Nat.lt_trichotomy k p with h|h|h
    ·have:=ab.out k E h;omega
    ·subst h;exact au E e
    ·have hp:p<ms.length:=(by omega);have h1:=yX ac hp E h;have h2:=aj.out p hp (OV _);omega))
   by_cases af:p<ms.length
   ·have an:(p:Int)<(ms.length:Int):=(by omega);obtain⟨g,ad,_,_⟩:=M.at0 (by rw[OW];omega);subst ad;have z:=fun k E=>qR (M.below J (OV _)) p af k E;have ah:=a8 (show ms[p].uid=u→jB ms u=some p from fun e=>uD (fun i hi aq e2=>by have:=ab.out i hi aq;omega) af e);have al:=a8 (show ms[p].uid≠u→jB ms u=none from fun e=>ag.out (fun _=>e));generalize ms[p]=X at z ah al;have Q:wr.cell? ⟨g,p*6,none⟩=some (uI X.uid):=z 0 (by omega);have R:wr.cell? ⟨g,p*6+1,none⟩=some (iI X.stamp):=z 1 (by omega);have U:wr.cell? ⟨g,p*6+2,none⟩=some (uI X.flags):=z 2 (by omega);have V:wr.cell? ⟨g,p*6+3,none⟩=some (sN):=z 3 (by omega);have Y:wr.cell? ⟨g,p*6+4,none⟩=some (iI X.size):=z 4 (by omega);have K:wr.cell? ⟨g,p*6+5,none⟩=some (.bool (decide (X.bare=1))):=z 5 (by omega);have A:=a8 (Bw X.uid X.stamp X.flags none 0 0 X.size (decide (X.bare=1)) u wr);have aa:=a8 (Hy X.uid u);generalize cmN X.uid u=N at A aa;generalize decide (X.bare=1)=bz at K A;clear z;by_cases O:N=0
    ·have L:=a8 (ah.out (aa.1 O));subst O;go_wp2_with fail;refine A.mono ?_;rintro e w2 ⟨rfl,G⟩;have I:=bTr J G;clear G Q R U V Y K A;go_wp2;go_ret2;exact⟨⟨p,true,rfl,fun _=>L.out,fun h=>by cases h⟩,I⟩
    ·have L:=a8 (al.out (fun h=>O (aa.2 h)));have av:(N==0)=false:=(by simpa using O);go_wp2_with fail;refine A.mono ?_;rintro e w2 ⟨rfl,G⟩;have I:=bTr J G;clear G Q R U V Y K A;go_wp2;go_ret2;exact⟨⟨p,false,rfl,(fun h=>by cases h),fun _=>L.out⟩,I⟩
   ·have an:¬(p:Int)<(ms.length:Int):=(by omega);have L:=a8 (ag.out (fun h=>OH h af));go_wp2;go_ret2;exact⟨⟨p,false,rfl,(fun h=>by cases h),fun _=>L.out⟩,J⟩
def mbA(s:IX)(mv:Value):Array Value:= #[.int .u32 (s.val:Int),.int .u32 (s.next:Int),.int .u64 (s.gen:Int),.string ⟨#[]⟩,sN,.int .i64 0,.string ⟨#[]⟩,sN,.int .i64 0,mv]
abbrev MbI(w:World)(g:Nat)(s:IX)(mv:Value):Prop:=Blk w g (mbA s mv) 214
structure RdI(gm gw B:Nat)(w wr:World)(s:IX)(mv:Value)(ws:List BA):Prop where
 st:MbI wr gm s mv
 row:nC wr B mv s.mails
 tw:TW wr gw ws
 fr:dX gm B w wr
 sz:B≤wr.heap.size
 n1:gm<B
 n2:B≤gw
section
variable {gm gw B:Nat} {w wr wr':World} {s:IX} {mv:Value} {ws:List BA}
theorem eV{w:World}{G e k g:Nat}{v:Value}{J:List (List Value)}{A:Array Value}{t:TypeId}(h:dM w G e k v J)(z:Blk w g A t)(I:e≠t):v.ownBlock≠some g:=by
 intro E;rcases h.2.2 with⟨rfl,_⟩|⟨N,M,L,rfl,_,K,_⟩
 ·cases E
 ·simp only[Value.ownBlock,OY] at E;subst E;unfold Blk at z;rw[K] at z;simp only[OY,Obj.cells.injEq] at z;exact I z.2.1
theorem RdI.below(h:RdI gm gw B w wr s mv ws)(z:Below wr.heap.size wr wr'):RdI gm gw B w wr' s mv ws:=
 ⟨h.st.below z h.st.lt,dM.below h.row z (OV _),h.tw.below z,h.fr.trans (dX.of_below z h.sz),O0 h.sz z.size,h.n1,h.n2⟩
theorem RdI.word{r:List BA}(h:RdI gm gw B w wr s mv ws)(z:lE gw wr wr')(I:TW wr' gw r):RdI gm gw B w wr' s mv r:=by
 have G:gm≠gw:=(by have:=h.n1;have:=h.n2;omega);obtain⟨gr,K,c,J,E,_⟩:=h.tw;refine⟨h.st.keepB (z.block gm h.st.lt G),dM.keep h.row (fun g A=>z.block g (dM.lt h.row g A).2 (fun e=> ?_)),I,h.fr.trans ⟨z.os,z.tape,z.output,z.size,fun k L M=>z.block k (by have:=h.sz;omega) (by have:=h.n2;omega)⟩,O0 h.sz z.size,h.n1,h.n2⟩;subst e;exact eV h.row E (by decide) A
theorem RdI.put(h:RdI gm gw B w wr s mv ws)(j:Nat)(u:Value)(s':IX)(I:s'.mails=s.mails)(G:(mbA s mv).setIfInBounds j u=mbA s' mv):RdI gm gw B w (wr.setCell ⟨gm,j,none⟩ u) s' mv ws:=by
 have z:∀g,B≤g→g≠gm:=fun g z e=>(by have:=h.n1;omega);refine⟨?_,?_,?_,h.fr.set u,by simpa using h.sz,h.n1,h.n2⟩
 ·have:=h.st.set j u;rw[G] at this;exact this
 ·rw[I];exact dM.keep h.row (fun g A=>OQ wr ⟨gm,j,none⟩ g u (by have:=z g (dM.lt h.row g A).1;simpa using this))
 ·exact h.tw.keep (fun g K t E J=>OQ wr ⟨gm,j,none⟩ g u (by
   have:g≠gm:=l9 E h.st (by rcases J with rfl|rfl<;>decide);simpa using this))
theorem RdI.env(h:RdI gm gw B w wr s mv ws)(A:∀w',dX gm B w w'→Env w'):∀w',lE gw wr w'→Env w':=fun w' z=>A w' (h.fr.trans ⟨z.os,z.tape,z.output,z.size,fun k E G=>z.block k (by have:=h.sz;omega) (by have:=h.n2;omega)⟩)
end
def Mx(gm B:Nat)(w0 w':World):Prop:=dX gm B w0 w'∧∃s mv,MbI w' gm s mv
theorem RdI.bad{z E B:Nat}{w wr:World}{s:IX}{A:Value}{ws:List BA}(h:RdI z E B w wr s A ws):Mx z B w wr:=⟨h.fr,s,A,h.st⟩
theorem oX{A E B:Nat}{w wr w':World}{s:IX}{G:Value}{ws:List BA}(h:RdI A E B w wr s G ws)(z:lE E wr w'):Mx A B w w':=
 ⟨h.fr.trans ⟨z.os,z.tape,z.output,z.size,fun k I J=>z.block k (by have:=h.sz;omega) (by have:=h.n2;omega)⟩,s,G,h.st.keepB (z.block A h.st.lt (by have:=h.n1;have:=h.n2;omega))⟩
def xT(gm gw B:Nat)(w0:World)(o:Option IX)(e:Ending)(w':World):Prop:=(∃s' mv' r,e= .returned (.tuple #[])∧RdI gm gw B w0 w' s' mv' r∧o=if r=[] then some s' else none)∨(nz e∧o=none∧Mx gm B w0 w')
theorem Bu(z:Nat)(s:IX)(I:Value)(u:Nat)(w:World)(h:MbI w z s I)(M:u≤4294967294):Calls prog 157 #[pP z,.int .u32 (u:Int)] w fun e w'=>e= .returned (.tuple #[])∧w'=w.setCell ⟨z,1,none⟩ (.int .u32 ((if s.next≤u then u+1 else s.next:Nat):Int)):=by
 obtain⟨-,K⟩:=h.c2;have L:=fun j=>h.fz j;have J:(u:Int)≤4294967294:=(by omega);by_cases A:s.next≤u
 ·have E:(s.next:Int)≤(u:Int)+1:=(by omega);have G:max (s.next:Int) ((u:Int)+1)=(u:Int)+1:=(by omega);rw[OS A];clear A h;go_enter func157,ntmps157;go_wp2
  go_end0
  exact⟨rfl,rfl⟩
 ·have E:(u:Int)+1≤(s.next:Int):=(by omega);have G:max (s.next:Int) ((u:Int)+1)=(s.next:Int):=(by omega);rw[OR A];clear A h;go_enter func157,ntmps157;go_wp2
  go_end0
  exact⟨rfl,rfl⟩
theorem Gz{t:List UInt8}(h:dT t 1 4294967295=some n)(z:n≠4294967295):dT t 1 4294967294=some n:=by
 unfold dT at*;split at h
 ·next hc=>
  simp only[OY] at h;rw[OS ⟨hc.1,hc.2.1,by omega⟩,h]
 ·cases h
theorem yN{t:List UInt8}(h:dT t 1 4294967295=none):dT t 1 4294967294=none:=by
 unfold dT at*;split at h
 ·cases h
 ·next hc=>rw[OR (fun z=>hc ⟨z.1,z.2.1,by omega⟩)]
theorem yM{t:List UInt8}(h:dT t 1 4294967295=some 4294967295):dT t 1 4294967294=none:=by
 unfold dT at*;split at h
 ·next hc=>
  simp only[OY] at h;rw[OR (fun z=>by omega)]
 ·cases h
theorem mQ{ws:List (List UInt8)}{s:IX}(h:ws.length=5→s.mails.length<100→iQ ([65]::ws) s=none):dV false ([65]::ws) s=none:=by
 unfold dV;rw[OR (by simp)];unfold nh;rw[OR (by simp)];split
 ·next hc=>exact h (by simpa using hc.1) hc.2.2
 ·rfl
theorem Le{b c d e f:List UInt8}{s:IX}{t fl:Nat}(M:s.mails.length<100)(E:dT b 1 4294967294=some u)(G:dT c 0 1000000000000=some t)(I:dT d 0 2147483647=some fl)(J:dT e 0 40000=some n)(K:dT f 0 1=some z)(L:lB s.mails u=true):
  dV false [[65],b,c,d,e,f] s=some {s with next:=if s.next≤u then u+1 else s.next,mails:=s.mails++[⟨u,t,fl,n,z⟩]}:=by
 unfold dV;rw[OR (by simp)];unfold nh;rw[OR (by simp),OS ⟨rfl,rfl,M⟩];unfold iQ;have A:dT b 1 (gH-1)=some u:=E;simp only[A,G,I,J,K,L,if_true]
theorem NU{b:List UInt8}{r:List (List UInt8)}{s:IX}(h:dT b 1 4294967294=none):iQ ([65]::b::r) s=none:=by
 unfold iQ;have z:dT b 1 (gH-1)=none:=h;split
 ·next e=>cases e;simp only[z]
 ·rfl
theorem Oo{b c:List UInt8}{r:List (List UInt8)}{s:IX}(h:dT c 0 1000000000000=none):iQ ([65]::b::c::r) s=none:=by
 unfold iQ;split
 ·next e=>
  cases e;cases dT b 1 (gH-1)<;>simp only[h]
 ·rfl
theorem Oq{b c d:List UInt8}{r:List (List UInt8)}{s:IX}(h:dT d 0 2147483647=none):iQ ([65]::b::c::d::r) s=none:=by
 unfold iQ;split
 ·next e=>
  cases e;cases dT b 1 (gH-1)<;>cases dT c 0 1000000000000<;>simp only[h]
 ·rfl
theorem Ot{b c d e:List UInt8}{r:List (List UInt8)}{s:IX}(h:dT e 0 40000=none):iQ ([65]::b::c::d::e::r) s=none:=by
 unfold iQ;split
 ·next e1=>
  cases e1;cases dT b 1 (gH-1)<;>cases dT c 0 1000000000000<;>cases dT d 0 2147483647<;>simp only[h]
 ·rfl
theorem Ou{b c d e f:List UInt8}{r:List (List UInt8)}{s:IX}(h:dT f 0 1=none):iQ ([65]::b::c::d::e::f::r) s=none:=by
 unfold iQ;split
 ·next e1=>
  cases e1;cases dT b 1 (gH-1)<;>cases dT c 0 1000000000000<;>cases dT d 0 2147483647<;>cases dT e 0 40000<;>simp only[h]
 ·rfl
theorem Ov{b:List UInt8}{r:List (List UInt8)}{s:IX}(h:dT b 1 4294967294=some u)(E:lB s.mails u=false):iQ ([65]::b::r) s=none:=by
 unfold iQ;have A:dT b 1 (gH-1)=some u:=h;split
 ·next x y z _ _ e1=>
  cases e1;simp only[A,E];split<;>simp_all
 ·rfl
theorem M7:(prog.info? 243).map (fun i=>(i.zero,i.size,i.bytes))=some (some (.agg #[.int .u32 0,.int .i64 0,.int .u32 0,sN,.int .i64 0,.bool false]),6,64):=by kernel_rfl
theorem uV{M:Array Oper}{A:Act}{K:Act→World→Prop}{E:Prop}(w:World)(V:o.guard=none)(s x:Operand)
  (ho:o.op= .call {callee:= .builtin .append,args:= #[s,x],argTypes:= #[212,212]})
  (G:Nat) (v:Value) (ms:List IM) (m:IM) (J c:Nat) (hs:A.eval s=v) (hx:A.eval x=sS J 1 c) (L:nC w G v ms)
  (hc:∀j u,(il0 m)[j]? =some u→w.cell? ⟨J,j,none⟩=some u) (ab:ms.length≤1048576) (O:G≤w.heap.size)
  (h:∀I w',nC w' G I (ms++[m])→w.grownBy w' v.ownBlock→K (A.put o.dst I) w'):if Region.wanted o (yielded M A.tmps)=true then Oper.wp prog o A w K Q else E:=by
 have hw:Region.wanted o (yielded M A.tmps)=true:=(by simp[Region.wanted,V]);rw[OS hw];obtain⟨i0,hi,Y,Z,aa⟩:=info_parts M7;have R:w.ownsRow G 243 6 v ms.length (ms.map il0).flatten:=(by have:=L.2;rw[OW] at this;exact this);refine wp_append_own w s x 212 ho G 243 i0 (.agg #[.int .u32 0,.int .i64 0,.int .u32 0,sN,.int .i64 0,.bool false]) 6 64 underlying212 hi Y Z aa rfl (by decide) v ms.length (ms.map il0).flatten hs R ⟨J,0,none⟩ 1 c (il0 m) hx (by simp[il0]) ?_ ?_ (by unfold maxLen;omega) (by omega) O ?_
 ·intro j u hj;rw[ez,Ps];exact hc j u hj
 ·intro u N;simp only[il0,Pd,Pw,or_false] at N;rcases N with rfl|rfl|rfl|rfl|rfl|rfl<;>rfl
 ·intro I w' U hg _;refine h I w' ⟨?_,?_⟩ hg
  ·intro y z;rw[O7,Pj] at z;rcases z with z|z
   ·exact L.1 y z
   ·simp only[Pe,PD,Ph] at z;rw[z];rfl
  ·rw[OW,O1,O7,PQ];simpa using U
theorem RdI.aside{E G:Nat}{s:IX}{A:Value}{ws:List BA}(h:RdI E G B w wr s A ws)(K:Blk wr g cs 243)(J:B≤g)(L:A.ownBlock≠some g)(u:Value):RdI E G B w (wr.setCell ⟨g,j,none⟩ u) s A ws:=by
 have O:=h.n1;refine⟨h.st.other (by omega) u,dM.keep h.row (fun b z=>OQ wr ⟨g,j,none⟩ b u (by intro e;have I:b=g:=e;subst I;exact L z)),h.tw.keep (fun b N t z M=>OQ wr ⟨g,j,none⟩ b u (by
  have:b≠g:=l9 z K (by rcases M with rfl|rfl<;>decide);simpa using this)),h.fr.high J u,by simpa using h.sz,h.n1,h.n2⟩
theorem No{Q:Nat}{s:IX}{r:List BA}{M:IM}{o:Obj}(h:RdI z Q B w W s G r)(O:Y.heap=(W.alloc o).heap)(e2:Y.os=W.os)(e3:Y.tape=W.tape)(e4:Y.output=W.output)(Z:nC w' B E (s.mails++[M]))(J:Y.grownBy w' G.ownBlock):
  w'.cell? ⟨z,9,none⟩=some G∧w'.frozen? ⟨z,9,none⟩=false∧RdI z Q B w (w'.setCell ⟨z,9,none⟩ E) {s with mails:=s.mails++[M]} E r:=by
 have N:=nAl W o;have ab:W.heap.size≤w'.heap.size:=by
  have:=J.size;rw[O] at this;exact O0 N.size this
 have L:∀b,b<W.heap.size→G.ownBlock≠some b→w'.heap[b]? =W.heap[b]? :=fun b I R=>by
  rw[J.block b (by rw[O];exact Pb I N.size) (fun e=>R e.symm),O];exact N.block b I
 have n1:=h.n1;have n2:=h.n2;have ac:=h.sz;have V:∀b,b<B→G.ownBlock≠some b:=fun b A e=>(by have:=(dM.lt h.row b e).1;omega);have K:MbI w' z s G:=h.st.keepB (L z (by omega) (V z n1));have hT:TW w' Q r:=h.tw.keep (fun b aa t A U=>L b A.lt (eV h.row A (by rcases U with rfl|rfl<;>decide)));refine⟨K.cell 9,K.fz 9,?_,?_,?_,?_,by simp;omega,n1,n2⟩
 ·have:=K.set 9 E;show Blk _ z (mbA _ _) _;simpa[mbA] using this
 ·exact dM.keep Z (fun b A=>OQ w' ⟨z,9,none⟩ b E (by have:=(dM.lt Z b A).1;simp;omega))
 ·exact hT.keep (fun b aa t A U=>OQ w' ⟨z,9,none⟩ b E (by
   have:b≠z:=l9 A K (by rcases U with rfl|rfl<;>decide);simpa using this))
 ·refine dX.set ⟨J.os.trans (e2.trans h.fr.os),J.tape.trans (e3.trans h.fr.tape),J.output.trans (e4.trans h.fr.output),O0 h.fr.size ab,fun b I R=>(L b (by omega) (V b I)).trans (h.fr.block b I R)⟩ E
end Go.Proofs.YtkkdfgnnlpohlaaGreatDoor
