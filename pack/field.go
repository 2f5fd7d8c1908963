package pack

import "braid/api"

// field says where in a row one of its numbers stands, which is an int or an int64.
type field struct {
	short func(r *api.Row) *int
	long  func(r *api.Row) *int64
}

func (f field) of(r *api.Row) int64 {
	if f.long != nil {
		return *f.long(r)
	}
	return int64(*f.short(r))
}

func (f field) lay(r *api.Row, n int64) {
	if f.long != nil {
		*f.long(r) = n
	} else {
		*f.short(r) = int(n)
	}
}

// fields are a row's numbers but its Thread: a field's place is its bit in the mask (P26.4).
func fields() [18]field {
	return [...]field{
		{short: func(r *api.Row) *int { return &r.Step }},
		{short: func(r *api.Row) *int { return &r.Job }},
		{short: func(r *api.Row) *int { return &r.Try }},
		{short: func(r *api.Row) *int { return &r.Attempt }},
		{short: func(r *api.Row) *int { return &r.Kind }},
		{short: func(r *api.Row) *int { return &r.Phase }},
		{short: func(r *api.Row) *int { return &r.Object }},
		{short: func(r *api.Row) *int { return &r.Entry }},
		{short: func(r *api.Row) *int { return &r.Enemy }},
		{short: func(r *api.Row) *int { return &r.Cell }},
		{long: func(r *api.Row) *int64 { return &r.Seen }},
		{long: func(r *api.Row) *int64 { return &r.Wrote }},
		{short: func(r *api.Row) *int { return &r.Wait }},
		{long: func(r *api.Row) *int64 { return &r.Value.Num }},
		{short: func(r *api.Row) *int { return &r.Value.Next }},
		{long: func(r *api.Row) *int64 { return &r.Put.Num }},
		{short: func(r *api.Row) *int { return &r.Put.Next }},
		{short: func(r *api.Row) *int { return &r.End }},
	}
}

// flag says where in a row one of its bools stands, and what it adds to the row's flags.
type flag struct {
	worth byte
	at    func(r *api.Row) *bool
}

func flags() [7]flag {
	return [...]flag{
		{1, func(r *api.Row) *bool { return &r.Done }},
		{2, func(r *api.Row) *bool { return &r.Abort }},
		{4, func(r *api.Row) *bool { return &r.Timeout }},
		{8, func(r *api.Row) *bool { return &r.Told }},
		{16, func(r *api.Row) *bool { return &r.Puts }},
		{32, func(r *api.Row) *bool { return &r.Value.Dead }},
		{64, func(r *api.Row) *bool { return &r.Put.Dead }},
	}
}

func flagsOf(r *api.Row) byte {
	var all byte
	for _, f := range flags() {
		if *f.at(r) {
			all += f.worth
		}
	}
	return all
}

// layFlags lays each flag into a row, those that are down too.
func layFlags(r *api.Row, all byte) {
	for _, f := range flags() {
		*f.at(r) = all&f.worth != 0
	}
}
