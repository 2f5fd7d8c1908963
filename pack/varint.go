package pack

// A varint has seven bits of its number in each byte (P26.2).
const (
	groupBits = 7
	more      = 1 << groupBits // added to a group that another one follows
)

func appendVarint(b []byte, u uint64) []byte {
	for ; u >= more; u >>= groupBits {
		b = append(b, byte(u)|more)
	}
	return append(b, byte(u))
}

func zigzag(x int64) uint64 { return uint64(x)<<1 ^ uint64(x>>63) }

func unzigzag(u uint64) int64 { return int64(u>>1) ^ -int64(u&1) }

// reader takes a body's bytes, from the first on; where none is left, zeros.
type reader struct {
	left []byte
}

func (r *reader) next() byte {
	if len(r.left) == 0 {
		return 0
	}
	c := r.left[0]
	r.left = r.left[1:]
	return c
}

// varint takes a varint, also one that is longer than it may be: bits beyond the sixty-fourth are lost.
func (r *reader) varint() uint64 {
	var u uint64
	for shift := 0; ; shift += groupBits {
		c := r.next()
		u |= uint64(c&^more) << shift
		if c < more {
			return u
		}
	}
}
