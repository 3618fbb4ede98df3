package floor

import "verge/api"

// From is a new floor but for its time: no test lives to see a floor turned as often as the last times need.
func From(c api.Config, now uint64) (*Floor, api.Errno) {
	f, err := New(c)
	if err == api.OK {
		f.now.Store(now)
	}
	return f, err
}
