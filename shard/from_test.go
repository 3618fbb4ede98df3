package shard

import (
	"verge/api"
	"verge/wheel"
)

// From is a new shard but for its wheel's time: no test lives to see a shard turned as often as the last times need.
func From(n int, now uint64) (*Shard, api.Errno) {
	s, err := New(n)
	if err == api.OK {
		s.wheel = wheel.New[api.Task](now)
	}
	return s, err
}
