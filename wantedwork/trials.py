"""Trials: what is done on a hub within one is as if it had not been done."""

from wantedwork.worlds import copied_world


class Trial:
    """Puts the world of a hub back at the end of a with statement."""

    def __init__(self, hub):
        self._kept_hub = hub
        self._kept_world = None

    def __enter__(self):
        hub = self._kept_hub
        self._kept_world = hub._world
        hub._world = copied_world(hub._world)
        return hub

    def __exit__(self, kind, value, trace):
        hub = self._kept_hub
        hub._world = self._kept_world
