package net

// row are packets, one behind the other.
type row []packet

// add puts a packet behind all.
func (r *row) add(p packet) {
	*r = append(*r, p)
}

// strike takes the packet at that place out, and those behind it move up.
func (r *row) strike(i int) {
	l := *r
	if i < len(l)/2 {
		// Fewer are ahead than behind, above all at the first place, which a net that delivers in order strikes again and again.
		copy(l[1:], l[:i])
		l[0] = packet{}
		*r = l[1:]
		return
	}
	copy(l[i:], l[i+1:])
	l[len(l)-1] = packet{}
	*r = l[:len(l)-1]
}
